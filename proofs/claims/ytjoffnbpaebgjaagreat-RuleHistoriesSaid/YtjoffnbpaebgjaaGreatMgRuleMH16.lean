/-
  An ask seen from the other end of its line. By an AI agent.; The program's Moments, whole. By an AI agent.; The law RuleMoments. By an AI agent.; Arguments, opened: lists of ints and of pairs, tables, scenes, structs of them, arrays. By an AI agent.
-/
import Derived.Test.YtjoffnbpaebgjaaGreatMgRuleMH0
import Derived.Test.YtjoffnbpaebgjaaGreatMgRuleMH7
import Derived.Test.YtjoffnbpaebgjaaGreatMgRuleMH10
import Derived.Test.YtjoffnbpaebgjaaGreatMgRuleMH11
import Derived.Test.YtjoffnbpaebgjaaGreatMgRuleMH12
import Derived.Test.YtjoffnbpaebgjaaGreatMgRuleMH13
import Derived.Test.YtjoffnbpaebgjaaGreatMgRuleMH14
import Derived.Test.YtjoffnbpaebgjaaGreatMgRuleMH15
import Derived.Deep.RegionHeld3
import Derived.Deep.DeepCutAuto
import Derived.BigQuiet
import Derived.BigRegion
import Derived.StillTailTactics
import Derived.Deep.AppendLies
import Derived.Lib.SmallJoins
import Derived.Deep.Slices
import Derived.OpenShut

namespace Go.Proofs.YtjoffnbpaebgjaaGreat
set_option linter.unusedVariables false
set_option linter.unusedSimpArgs false
open Go.RowKit

def mS (L : Int) (s : Sgn) : Sgn := { s with c := L - s.c, d := -s.d }
def mJ (L : Int) (js : List Int) : List Int := (js.map (fun x => L - x)).reverse
def mE (L : Int) (e : Edc) : Edc := { e with fr := L - e.tt, tt := L - e.fr, d := -e.d }
theorem m_dst {L dir c : Int} (hd : dir = 1 ∨ dir = -1) : dstK L (-dir) (L - c) = dstK L dir c := by
  unfold dstK
  rcases hd with rfl | rfl
  · rw [if_neg (by decide), if_pos rfl]; omega
  · rw [if_pos (by decide), if_neg (by decide)]
theorem m_beg {L dir m : Int} (hd : dir = 1 ∨ dir = -1) : begK L (-dir) (L - 1 - m) = begK L dir m := by
  unfold begK
  rcases hd with rfl | rfl
  · rw [if_neg (by decide), if_pos rfl]; omega
  · rw [if_pos (by decide), if_neg (by decide)]
theorem m_sel {L dir h : Int} (x : Sgn) : selB (-dir) h (mS L x) = selB dir h x := by
  unfold selB
  have : ((mS L x).d == -dir) = (x.d == dir) := by
    rw [Bool.eq_iff_iff, beq_iff_eq, beq_iff_eq]
    unfold mS
    simp only
    omega
  rw [this]; rfl
theorem m_ahS {L dir : Int} (hd : dir = 1 ∨ dir = -1) (x y : Sgn) : ahS L (-dir) (mS L x) (mS L y) ↔ ahS L dir x y := by
  unfold ahS
  have h1 : dstK L (-dir) (mS L x).c = dstK L dir x.c := m_dst hd
  have h2 : dstK L (-dir) (mS L y).c = dstK L dir y.c := m_dst hd
  rw [h1, h2]; exact Iff.rfl
theorem gs_mapS (L : Int) (l : List Sgn) {k : Nat} (hk : k < l.length) : gs (l.map (mS L)) k = mS L (gs l k) := by
  rw [gs_at _ (by simpa using hk), List.getElem_map, gs_at _ hk]
theorem m_plc {L dir : Int} (hd : dir = 1 ∨ dir = -1) (x : Sgn) (out : List Sgn) : ∀ k, k ≤ out.length → plcS L (-dir) (mS L x) (out.map (mS L)) k = plcS L dir x out k
  | 0, _ => rfl
  | k + 1, hk => by
    rw [plcS, plcS, gs_mapS L out (by omega), m_plc hd x out k (by omega)]
    exact ifc (m_ahS hd x (gs out k))
theorem m_ins {L dir h : Int} (hd : dir = 1 ∨ dir = -1) (l : List Sgn) : ∀ k, k ≤ l.length → insR L (-dir) h (l.map (mS L)) k = (insR L dir h l k).map (mS L)
  | 0, _ => rfl
  | k + 1, hk => by
    have ih := m_ins (L := L) (h := h) hd l k (by omega)
    rw [insR_step, insR_step, ih, gs_mapS L l (by omega), stepI, stepI, m_sel, List.length_map, m_plc hd _ _ _ (Nat.le_refl _)]
    split
    · rw [List.map_append, List.map_cons, List.map_take, List.map_drop]
    · rfl
theorem m_insA {L dir h : Int} (hd : dir = 1 ∨ dir = -1) (l : List Sgn) : insR L (-dir) h (l.map (mS L)) (l.map (mS L)).length = (insR L dir h l l.length).map (mS L) := by
  rw [List.length_map, m_ins hd l _ (Nat.le_refl _)]
theorem jct_iff (L : Int) (js : List Int) (dir d k : Int) : jctB L js dir d k = true ↔ ∃ x, x ∈ js ∧ d < dstK L dir x ∧ dstK L dir x ≤ k := by
  constructor
  · intro h
    refine Classical.byContradiction fun hn => ?_
    have : jctB L js dir d k = false := (anyK_iff _).2 fun j hj => by
      rw [Bool.and_eq_false_iff, decide_eq_false_iff_not, decide_eq_false_iff_not]
      refine Classical.byContradiction fun h9 => hn ⟨gi js j, by rw [gi_at _ hj]; exact List.getElem_mem hj, ?_⟩
      omega
    rw [this] at h; cases h
  · rintro ⟨x, hx, h1, h2⟩
    obtain ⟨j, hj, rfl⟩ := List.getElem_of_mem hx
    unfold jctB
    refine anyK_true ?_ _ hj
    rw [gi_at _ hj, decide_eq_true h1, decide_eq_true h2]; rfl
theorem m_jct {L dir : Int} (hd : dir = 1 ∨ dir = -1) (js : List Int) (d k : Int) : jctB L (mJ L js) (-dir) d k = jctB L js dir d k := by
  rw [Bool.eq_iff_iff, jct_iff, jct_iff]
  constructor
  · rintro ⟨x, hx, h⟩
    unfold mJ at hx
    rw [List.mem_reverse, List.mem_map] at hx
    obtain ⟨y, hy, rfl⟩ := hx
    rw [m_dst hd] at h
    exact ⟨y, hy, h⟩
  · rintro ⟨x, hx, h⟩
    refine ⟨L - x, ?_, by rw [m_dst hd]; exact h⟩
    unfold mJ
    rw [List.mem_reverse, List.mem_map]
    exact ⟨x, hx, rfl⟩
theorem m_plt {L dir : Int} (hd : dir = 1 ∨ dir = -1) (k : Int) (s : Sgn) (r : List Sgn) : pltB L (-dir) k (mS L s) (r.map (mS L)).head? = pltB L dir k s r.head? := by
  cases r with
  | nil => rfl
  | cons p r =>
    rw [List.map_cons, List.head?_cons, List.head?_cons]
    show ((mS L p).k == 7 && ((dstK L (-dir) (mS L p).c == dstK L (-dir) (mS L s).c) && decide (dstK L (-dir) (mS L s).c + (mS L p).v ≤ k))) = _
    rw [show dstK L (-dir) (mS L p).c = dstK L dir p.c from m_dst hd, show dstK L (-dir) (mS L s).c = dstK L dir s.c from m_dst hd]
    rfl
theorem m_hS {L dir : Int} (hd : dir = 1 ∨ dir = -1) (js : List Int) (t k : Int) : ∀ (r : List Sgn) (v : Int), hS L (mJ L js) (-dir) t k (r.map (mS L)) v = hS L js dir t k r v
  | [], _ => rfl
  | s :: r, v => by
    rw [List.map_cons, hS, hS, show dstK L (-dir) (mS L s).c = dstK L dir s.c from m_dst hd, m_hS hd js t k r]
    have : stpS L (mJ L js) (-dir) t k (mS L s) (r.map (mS L)).head? v = stpS L js dir t k s r.head? v := by
      unfold stpS shutB
      rw [m_plt hd, show dstK L (-dir) (mS L s).c = dstK L dir s.c from m_dst hd, m_jct hd]
      rfl
    rw [this]
theorem m_hld {L dir : Int} (hd : dir = 1 ∨ dir = -1) (js : List Int) (l : List Sgn) (h t m : Int) : hldV L (mJ L js) (l.map (mS L)) h (-dir) t (L - 1 - m) = hldV L js l h dir t m := by
  unfold hldV
  rw [m_insA hd, m_beg hd, m_hS hd]
theorem m_nums {L dir : Int} (hd : dir = 1 ∨ dir = -1) (h : Int) (l : List Sgn) : numsR L (-dir) h (l.map (mS L)) = numsR L dir h l := by
  unfold numsR
  rw [m_insA hd, List.map_map]
  rfl
theorem ge_mapE (L : Int) (q : List Edc) {k : Nat} (hk : k < q.length) : ge (q.map (mE L)) k = mE L (ge q k) := by
  unfold ge; simp [hk]
theorem m_ed {L : Int} (x : Edc) (h t d m : Int) : edB (mE L x) h t (-d) (L - 1 - m) = edB x h t d m := by
  have f1 : decide ((mE L x).fr ≤ L - 1 - m) = decide (m < x.tt) := by
    rw [Bool.eq_iff_iff, decide_eq_true_eq, decide_eq_true_eq]
    show L - x.tt ≤ L - 1 - m ↔ m < x.tt
    omega
  have f2 : decide (L - 1 - m < (mE L x).tt) = decide (x.fr ≤ m) := by
    rw [Bool.eq_iff_iff, decide_eq_true_eq, decide_eq_true_eq]
    show L - 1 - m < L - x.fr ↔ x.fr ≤ m
    omega
  have f3 : ((mE L x).d == -d) = (x.d == d) := by
    rw [Bool.eq_iff_iff, beq_iff_eq, beq_iff_eq]
    show -x.d = -d ↔ x.d = d
    omega
  unfold edB
  rw [f1, f2, f3]
  show ((x.tp == t) && ((x.d == d) && (decide (m < x.tt) && (decide (x.fr ≤ m) && (decide (x.st ≤ h) && decide (h < x.en)))))) = _
  rw [← Bool.and_assoc (decide (m < x.tt)), Bool.and_comm (decide (m < x.tt)), Bool.and_assoc (decide (x.fr ≤ m))]
theorem m_must {L : Int} (q : List Edc) (h t d m : Int) : ∀ k, k ≤ q.length → mustK (q.map (mE L)) h t (-d) (L - 1 - m) k = mustK q h t d m k
  | 0, _ => rfl
  | k + 1, hk => by
    rw [mustK, mustK, m_must q h t d m k (by omega), ge_mapE L q (by omega), m_ed]
    rfl
theorem m_mustV {L : Int} (q : List Edc) (h t d m : Int) : mustV (q.map (mE L)) h t (-d) (L - 1 - m) = mustV q h t d m := by
  unfold mustV
  rw [List.length_map, m_must q h t d m _ (Nat.le_refl _)]
theorem m_plB {L : Int} (R : List Sgn) {i : Nat} (hi : i < R.length) : plB (R.map (mS L)) i = plB R i := by
  unfold plB
  rw [List.length_map]
  by_cases h : i + 1 < R.length
  · rw [gs_mapS L R h, gs_mapS L R hi]
    have : ((mS L (gs R (i + 1))).c == (mS L (gs R i)).c) = ((gs R (i + 1)).c == (gs R i).c) := by
      rw [Bool.eq_iff_iff, beq_iff_eq, beq_iff_eq]
      unfold mS
      simp only
      omega
    rw [this]; rfl
  · rw [decide_eq_false h]; rfl
theorem m_cod {L dir : Int} (hd : dir = 1 ∨ dir = -1) (js : List Int) (R : List Sgn) {i : Nat} (hi : i < R.length) : codS L (mJ L js) (-dir) (R.map (mS L)) i = codS L js dir R i := by
  have h1 : dstK L (-dir) (mS L (gs R i)).c = dstK L dir (gs R i).c := m_dst hd
  have h2 : minS (R.map (mS L)) i = minS R i := by
    unfold minS
    by_cases h0 : 0 < i
    · rw [gs_mapS L R (by omega), m_plB R (by omega)]; rfl
    · rw [decide_eq_false h0]; rfl
  have h3 : idlS L (mJ L js) (-dir) (R.map (mS L)) (mS L (gs R i)) = idlS L js dir R (gs R i) := by
    unfold idlS
    rw [h1, m_hS hd, m_hS hd]
    rfl
  unfold codS
  rw [gs_mapS L R hi, h1, h2, h3, m_hS hd]
  rfl
theorem m_flt {L dir : Int} (hd : dir = 1 ∨ dir = -1) (js : List Int) (R : List Sgn) : ∀ k, k ≤ R.length → fltS L (mJ L js) (-dir) (R.map (mS L)) k = fltS L js dir R k
  | 0, _ => rfl
  | k + 1, hk => by
    rw [fltS, fltS, m_flt hd js R k (by omega), m_cod hd js R (by omega), gs_mapS L R (by omega)]
    rfl
theorem m_allF (L h : Int) (js : List Int) (l : List Sgn) : (allF L (mJ L js) h (l.map (mS L))).Perm (allF L js h l) := by
  unfold allF
  have e1 : insR L 1 h (l.map (mS L)) (l.map (mS L)).length = (insR L (-1) h l l.length).map (mS L) := m_insA (dir := -1) (.inr rfl) l
  have e2 : insR L (-1) h (l.map (mS L)) (l.map (mS L)).length = (insR L 1 h l l.length).map (mS L) := m_insA (dir := 1) (.inl rfl) l
  rw [e1, e2, List.length_map, List.length_map]
  have f1 : fltS L (mJ L js) 1 ((insR L (-1) h l l.length).map (mS L)) (insR L (-1) h l l.length).length = fltS L js (-1) (insR L (-1) h l l.length) (insR L (-1) h l l.length).length := m_flt (dir := -1) (.inr rfl) js _ _ (Nat.le_refl _)
  have f2 : fltS L (mJ L js) (-1) ((insR L 1 h l l.length).map (mS L)) (insR L 1 h l l.length).length = fltS L js 1 (insR L 1 h l l.length) (insR L 1 h l l.length).length := m_flt (dir := 1) (.inl rfl) js _ _ (Nat.le_refl _)
  rw [f1, f2]
  exact List.perm_append_comm
theorem m_refF {L h : Int} {js : List Int} {l : List Sgn} (hs : sgnsB L js l = true) : refF L (mJ L js) h (l.map (mS L)) = refF L js h l := by
  have hn := (sgn_nums hs).2
  have hp : (refF L (mJ L js) h (l.map (mS L))).Perm (refF L js h l) := (refF_perm _ _ _ _).trans ((m_allF L h js l).trans (refF_perm L js h l).symm)
  refine flt_unique (refF_sorted _ _ _ _) (refF_sorted _ _ _ _) ?_ hp
  refine (hp.map (·.1)).nodup_iff.2 ?_
  exact ((refF_perm L js h l).map (·.1)).nodup_iff.2 (allF_nodup hn)
/-- A line, as a list. -/
theorem line_iff (L : Int) (js : List Int) : lineB L js = true ↔ (1 ≤ L ∧ L ≤ 100000) ∧ js.length ≤ 50 ∧ (∀ x, x ∈ js → 0 < x ∧ x < L) ∧ js.Pairwise (· < ·) := by
  constructor
  · intro h
    have hj : ∀ k, k < js.length → jOk L js k = true := fun k hk => by
      cases e : jOk L js k with
      | true => rfl
      | false => rw [line_bad hk e] at h; cases h
    have h2 := line_end (L := L) (js := js) hj
    rw [h] at h2
    have h2 := h2.symm
    rw [Bool.and_eq_true, decide_eq_true_eq] at h2
    have hstep : ∀ k, k < js.length → prvR js k < gi js k ∧ gi js k < L := fun k hk => by
      have := hj k hk
      unfold jOk at this
      simpa using this
    refine ⟨by have := btw_ge h2.1; exact this, h2.2, fun x hx => ?_, ?_⟩
    · obtain ⟨k, hk, rfl⟩ := List.getElem_of_mem hx
      have h3 := hstep k hk
      have h4 := jOk_pos k (fun j hj' => hj j (by omega))
      rw [gi_at _ hk] at h3
      omega
    · rw [List.pairwise_iff_getElem]
      intro i j hi hj' hij
      induction j with
      | zero => omega
      | succ j ih =>
        have h3 := (hstep (j + 1) hj').1
        rw [gi_at _ hj'] at h3
        have h4 : prvR js (j + 1) = js[j]'(by omega) := by rw [prvR, gi_at _ (by omega)]
        by_cases e : i = j
        · subst e; omega
        · have := ih (by omega) (by omega); omega
  · rintro ⟨hL, hl, hx, hp⟩
    rw [line_end, Bool.and_eq_true, decide_eq_true_eq]
    · exact ⟨by unfold btw; simp; exact hL, hl⟩
    · intro k hk
      unfold jOk
      rw [Bool.and_eq_true, decide_eq_true_eq, decide_eq_true_eq, gi_at _ hk]
      refine ⟨?_, (hx _ (List.getElem_mem hk)).2⟩
      cases k with
      | zero => exact (hx _ (List.getElem_mem hk)).1
      | succ k =>
        rw [prvR, gi_at _ (by omega)]
        exact (List.pairwise_iff_getElem.1 hp) k (k + 1) (by omega) hk (by omega)
theorem m_line {L : Int} {js : List Int} (h : lineB L js = true) : lineB L (mJ L js) = true := by
  rw [line_iff] at h ⊢
  obtain ⟨hL, hl, hx, hp⟩ := h
  unfold mJ
  refine ⟨hL, by simpa using hl, fun x hm => ?_, ?_⟩
  · rw [List.mem_reverse, List.mem_map] at hm
    obtain ⟨y, hy, rfl⟩ := hm
    have := hx y hy
    omega
  · rw [List.pairwise_reverse, List.pairwise_map]
    exact hp.imp fun h => by omega
theorem dir_neg {d : Int} (h : dirB d = true) : dirB (-d) = true := by
  unfold dirB at *
  simp only [Bool.or_eq_true, beq_iff_eq] at *
  omega
theorem m_sgns {L : Int} {js : List Int} {l : List Sgn} (h : sgnsB L js l = true) : sgnsB L (mJ L js) (l.map (mS L)) = true := by
  rw [sgns_iff] at h ⊢
  refine ⟨m_line h.1, by simpa using h.2.1, fun x hx => ?_, ?_⟩
  · obtain ⟨y, hy, rfl⟩ := List.mem_map.1 hx
    obtain ⟨h1, h2⟩ := h.2.2.1 y hy
    refine ⟨h1, ?_⟩
    unfold sgnB at h2 ⊢
    simp only [Bool.and_eq_true] at h2 ⊢
    obtain ⟨⟨⟨⟨⟨⟨a1, a2⟩, a3⟩, a4⟩, a5⟩, a6⟩, a7⟩ := h2
    refine ⟨⟨⟨⟨⟨⟨a1, ?_⟩, dir_neg a3⟩, a4⟩, a5⟩, a6⟩, a7⟩
    have := btw_ge a2
    unfold mS btw
    simp
    omega
  · rw [List.map_map]
    exact h.2.2.2
theorem edcs_iff (L : Int) (js : List Int) (q : List Edc) : edcsB L js q = true ↔ lineB L js = true ∧ q.length ≤ 50 ∧ (∀ x, x ∈ q → (btw x.n 1 1000000000 = true ∧ edcB L x = true)) ∧ (q.map (·.n)).Nodup := by
  have ge_at : ∀ {k : Nat} (hk : k < q.length), ge q k = q[k] := fun {k} hk => by unfold ge; simp [hk]
  have hat : ∀ x, x ∈ q → ∃ k, k < q.length ∧ ge q k = x := fun x hx => by
    obtain ⟨k, hk, e⟩ := List.getElem_of_mem hx
    exact ⟨k, hk, by rw [ge_at hk, e]⟩
  constructor
  · intro h
    refine ⟨edcs_line h, ?_, fun x hx => ?_, ?_⟩
    · by_cases h9 : 50 < q.length
      · rw [e_bad9 h9] at h; cases h
      · omega
    · obtain ⟨k, hk, rfl⟩ := hat x hx
      constructor
      · cases e : btw (ge q k).n 1 1000000000 with
        | true => rfl
        | false => rw [e_bad1 hk e] at h; cases h
      · cases e : edcB L (ge q k) with
        | true => rfl
        | false => rw [e_bad2 hk e] at h; cases h
    · rw [List.nodup_iff_pairwise_ne, List.pairwise_iff_getElem]
      intro i j hi hj hij e
      rw [List.getElem_map, List.getElem_map] at e
      have hi : i < q.length := by simpa using hi
      have hj : j < q.length := by simpa using hj
      rw [← ge_at hi, ← ge_at hj] at e
      rw [e_bad3 hj hij e] at h; cases h
  · rintro ⟨h0, h9, h, hn⟩
    refine e_end h0 h9 fun k hk => ?_
    have hm : ge q k ∈ q := by rw [ge_at hk]; exact List.getElem_mem hk
    refine ⟨(h _ hm).1, (h _ hm).2, fun j hj e => ?_⟩
    rw [List.nodup_iff_pairwise_ne, List.pairwise_iff_getElem] at hn
    refine hn j k (by simpa using (by omega : j < q.length)) (by simpa using hk) hj ?_
    rw [List.getElem_map, List.getElem_map, ← ge_at (by omega : j < q.length), ← ge_at hk]
    exact e
theorem m_edcs {L : Int} {js : List Int} {q : List Edc} (h : edcsB L js q = true) : edcsB L (mJ L js) (q.map (mE L)) = true := by
  rw [edcs_iff] at h ⊢
  refine ⟨m_line h.1, by simpa using h.2.1, fun x hx => ?_, ?_⟩
  · obtain ⟨y, hy, rfl⟩ := List.mem_map.1 hx
    obtain ⟨h1, h2⟩ := h.2.2.1 y hy
    refine ⟨h1, ?_⟩
    unfold edcB at h2 ⊢
    simp only [Bool.and_eq_true, decide_eq_true_eq] at h2 ⊢
    obtain ⟨⟨⟨⟨⟨a1, a2⟩, a3⟩, a4⟩, a5⟩, a6⟩ := h2
    refine ⟨⟨⟨⟨⟨a1, dir_neg a2⟩, ?_⟩, ?_⟩, ?_⟩, a6⟩ <;> (unfold mE; simp only; omega)
  · rw [List.map_map]
    exact h.2.2.2
end Go.Proofs.YtjoffnbpaebgjaaGreat

namespace Go.Proofs.YtjoffnbpaebgjaaGreat
set_option linter.unusedVariables false
set_option linter.unusedSimpArgs false
open Go.RowKit

/-- What good lists say of their moments. -/
theorem mom_good {L : Int} {js : List Int} {l : List Sgn} {q : List Edc} (h1 : sgnsB L js l = true) (h2 : edcsB L js q = true) :
    l.length ≤ 100 ∧ (∀ i, i < l.length → (gs l i).cv.length ≤ 10) ∧ q.length ≤ 50 ∧ (∀ x, x ∈ hrs l q → 0 ≤ x ∧ x ≤ 10000001) := by
  refine ⟨((sgns_iff L js l).1 h1).2.1, fun i hi => ?_, ((edcs_iff L js q).1 h2).2.1, fun x hx => hrs_in h1 h2 hx⟩
  have := sgn_in h1 i hi
  unfold sgnB at this
  simp only [Bool.and_eq_true, decide_eq_true_eq] at this
  exact this.1.2
theorem mom_len {l : List Sgn} {q : List Edc} (hl : l.length ≤ 100) (hcv : ∀ i, i < l.length → (gs l i).cv.length ≤ 10) (hq : q.length ≤ 50) : (momL l q).length ≤ 2300 := by
  have h1 := fold_len (hrs l q) []
  have h2 : (hrs l q).length ≤ 2300 := by
    unfold hrs
    rw [List.length_append, hrE_len]
    have := hrS_len hcv l.length (Nat.le_refl _)
    omega
  have e : (momL l q).length = ((hrs l q).foldl putH []).length := rfl
  rw [e]
  simp only [List.length_nil] at h1
  omega
set_option maxRecDepth 100000 in
set_option maxHeartbeats 2000000 in
theorem Moments_bad (L : Int) (a : Option Addr) (js : List Int) (ca : Nat) (aa : Option Addr) (l : List Sgn) (cl : Nat) (ae : Option Addr) (q : List Edc) (cq : Nat) (hV : lstE L js l q ≠ 0) (w : World) (hI : IntsS w a js) (hA : SgnS w aa l) (hE : EdS w ae q) :
    Calls Tryz.prog 8 #[.agg #[.int .i64 L, .slice a js.length ca], .slice aa l.length cl, .slice ae q.length cq] w fun e w' => e = .returned (.tuple #[.slice none 0 0, .int .i64 (lstE L js l q)]) ∧ Below w.heap.size w w' := by
  have H1 := Lib.hid (fun W (hW : Below w.heap.size w W) => listsError_r L a js ca aa l cl ae q cq W (hI.below hW) (hA.below hW) (hE.below hW))
  clear hI hA hE
  generalize lstE L js l q = E at *
  have d1 : (E != 0) = true := by simp [hV]
  clear hV
  go_enter Tryz.func8, Tryz.ntmps8
  go_wp2_with fail
  obtain ⟨wB, hwB⟩ : ∃ wB, w.alloc (.cells #[.int .i64 L, .slice a js.length ca] 24) = wB := ⟨_, rfl⟩
  have hb : Below w.heap.size w wB := by rw [← hwB]; exact (Below.refl _ _).alloc (Nat.le_refl _) _
  have l0 : wB.cell? ⟨w.heap.size, 0, none⟩ = some (.int .i64 L) := by rw [← hwB]; simp [go_sem]
  have l1 : wB.cell? ⟨w.heap.size, 1, none⟩ = some (.slice a js.length ca) := by rw [← hwB]; simp [go_sem]
  rw [hwB]
  clear hwB
  go_wp2_with (go_at_call 26; refine (H1.out _ hb).mono ?_; rintro e w1 ⟨rfl, hb1⟩)
  go_ret2
  exact ⟨rfl, hb.trans (hb1.mono hb.size)⟩
set_option maxRecDepth 100000 in
set_option maxHeartbeats 2000000 in
theorem Moments_good (L : Int) (a : Option Addr) (js : List Int) (ca : Nat) (aa : Option Addr) (l : List Sgn) (cl : Nat) (ae : Option Addr) (q : List Edc) (cq : Nat) (hV : lstE L js l q = 0) (w : World) (hI : IntsS w a js) (hA : SgnS w aa l) (hE : EdS w ae q) :
    Calls Tryz.prog 8 #[.agg #[.int .i64 L, .slice a js.length ca], .slice aa l.length cl, .slice ae q.length cq] w (RwA (momL l q) 0 w) := by
  obtain ⟨m1, m2, m3, m4⟩ := mom_good (lst_sgns hV) (lst_edcs hV)
  have hml := mom_len m1 m2 m3
  have HMB : Hid (∀ j, j < (momL l q).length → I64 (gi (momL l q) j)) := Lib.hid fun j hj => by
    have := (mom_in (fun x hx => (m4 x hx).1) (gi_mem hj))
    unfold I64
    omega
  have H1 := Lib.hid (fun W (hW : Below w.heap.size w W) => by
    have := listsError_r L a js ca aa l cl ae q cq W (hI.below hW) (hA.below hW) (hE.below hW)
    rw [hV] at this
    exact this)
  have H2 := Lib.hid (fun W (hW : Below w.heap.size w W) => moments_r aa l cl ae q cq m1 m2 m3 m4 W (hA.below hW) (hE.below hW))
  clear hI hA hE hV m1 m2 m3 m4
  go_enter Tryz.func8, Tryz.ntmps8
  go_wp2_with fail
  obtain ⟨wB, hwB⟩ : ∃ wB, w.alloc (.cells #[.int .i64 L, .slice a js.length ca] 24) = wB := ⟨_, rfl⟩
  have hb : Below w.heap.size w wB := by rw [← hwB]; exact (Below.refl _ _).alloc (Nat.le_refl _) _
  have l0 : wB.cell? ⟨w.heap.size, 0, none⟩ = some (.int .i64 L) := by rw [← hwB]; simp [go_sem]
  have l1 : wB.cell? ⟨w.heap.size, 1, none⟩ = some (.slice a js.length ca) := by rw [← hwB]; simp [go_sem]
  rw [hwB]
  clear hwB
  go_wp2_with (first | (go_at_call 26; refine (H1.out _ hb).mono ?_; rintro e w1 ⟨rfl, hb1⟩) | (go_at_call 27; refine (H2.out _ (hb.trans (hb1.mono hb.size))).mono ?_; rintro e w2 ⟨a2, c2, rfl, ho2, hb2⟩; have HO2 := Lib.hid ho2; clear ho2))
  go_ret2
  exact ⟨a2, c2, rfl, ints_own HO2.out (by omega) HMB.out, (hb.trans (hb1.mono hb.size)).trans (hb2.mono (hb.trans (hb1.mono hb.size)).size)⟩
theorem Moments_any (L : Int) (a : Option Addr) (js : List Int) (ca : Nat) (aa : Option Addr) (l : List Sgn) (cl : Nat) (ae : Option Addr) (q : List Edc) (cq : Nat) (r : Bool) (hr : r = true) (w : World) (hI : IntsS w a js) (hA : SgnS w aa l) (hE : EdS w ae q) :
    Calls Tryz.prog 8 #[.agg #[.int .i64 L, .slice a js.length ca], .slice aa l.length cl, .slice ae q.length cq] w (RwA (if whyK (lineB L js) true (sgnsB L js l) true (edcsB L js q) r = 0 then momL l q else []) (whyK (lineB L js) true (sgnsB L js l) true (edcsB L js q) r) w) := by
  obtain ⟨k1, k2⟩ := lst_se L js l q r
  subst hr
  by_cases hV : lstE L js l q = 0
  · rw [k2 hV]
    exact Moments_good L a js ca aa l cl ae q cq hV w hI hA hE
  · rw [k1 hV, if_neg hV]
    refine (Moments_bad L a js ca aa l cl ae q cq hV w hI hA hE).mono ?_
    rintro e w' ⟨rfl, hb⟩
    exact ⟨none, 0, rfl, ints_nil _ _, hb⟩
end Go.Proofs.YtjoffnbpaebgjaaGreat

namespace Go.Proofs.YtjoffnbpaebgjaaGreat
set_option linter.unusedVariables false
set_option linter.unusedSimpArgs false
open Go.RowKit

set_option linter.unnecessarySimpa false
set_option maxRecDepth 100000 in
set_option maxHeartbeats 4000000 in
theorem ruleMoments_any (L : Int) (a : Option Addr) (js : List Int) (ca : Nat) (aa : Option Addr) (l : List Sgn) (cl : Nat) (ae : Option Addr) (q : List Edc) (cq : Nat) (q0 q1 q2 q3 : Int) (w : World) (hI : IntsS w a js) (hA : SgnS w aa l) (hE : EdS w ae q) (pt : Int) (hw0 : 0 ≤ pt) (hw1 : pt ≤ 4294967295) : Calls Tryz.prog 4 #[.agg #[.int .i64 L, .slice a js.length ca, .slice aa l.length cl, .slice ae q.length cq, .int .i64 q0, .int .i64 q1, .int .i64 q2, .int .i64 q3], .int .u32 pt] w fun e w' => e = .returned (.bool true) ∧ Below w.heap.size w w' := by
  have HH := Lib.hid (fun W (hW : Below w.heap.size w W) => right_r L a js ca aa l cl ae q cq q0 q1 q2 q3 W (hI.below hW) (hA.below hW) (hE.below hW))
  have HI := Lib.hid hI
  have HA := Lib.hid hA
  have HE := Lib.hid hE
  clear hI hA hE
  go_enter Tryz.func4, Tryz.ntmps4
  go_wp2_with fail
  obtain ⟨wB, hwB⟩ : ∃ wB, w.alloc (.cells #[.int .i64 L, .slice a js.length ca, .slice aa l.length cl, .slice ae q.length cq, .int .i64 q0, .int .i64 q1, .int .i64 q2, .int .i64 q3] 28) = wB := ⟨_, rfl⟩
  have hb : Below w.heap.size w wB := by rw [← hwB]; exact (Below.refl _ _).alloc (Nat.le_refl _) _
  have p0 : wB.cell? ⟨w.heap.size, 0, none⟩ = some (.int .i64 L) := by rw [← hwB]; simp [go_sem]
  have p1 : wB.cell? ⟨w.heap.size, 1, none⟩ = some (.slice a js.length ca) := by rw [← hwB]; simp [go_sem]
  have p2 : wB.cell? ⟨w.heap.size, 2, none⟩ = some (.slice aa l.length cl) := by rw [← hwB]; simp [go_sem]
  have p3 : wB.cell? ⟨w.heap.size, 3, none⟩ = some (.slice ae q.length cq) := by rw [← hwB]; simp [go_sem]
  have p4 : wB.cell? ⟨w.heap.size, 4, none⟩ = some (.int .i64 q0) := by rw [← hwB]; simp [go_sem]
  have p5 : wB.cell? ⟨w.heap.size, 5, none⟩ = some (.int .i64 q1) := by rw [← hwB]; simp [go_sem]
  have p6 : wB.cell? ⟨w.heap.size, 6, none⟩ = some (.int .i64 q2) := by rw [← hwB]; simp [go_sem]
  have p7 : wB.cell? ⟨w.heap.size, 7, none⟩ = some (.int .i64 q3) := by rw [← hwB]; simp [go_sem]
  rw [hwB]
  clear hwB
  refine (HH.out _ hb).mono ?_
  rintro e wX ⟨bv, hRt, rfl, hb1⟩
  replace p0 := cell_below p0 hb1
  replace p1 := cell_below p1 hb1
  replace p2 := cell_below p2 hb1
  replace p3 := cell_below p3 hb1
  replace p4 := cell_below p4 hb1
  replace p5 := cell_below p5 hb1
  replace p6 := cell_below p6 hb1
  replace p7 := cell_below p7 hb1
  have hbw := hb.trans (hb1.mono hb.size)
  clear HH hb1
  cases bv with
  | false =>
    clear HI HA HE hRt
    go_wp2_with (go_at_call 7; refine (first_any _).mono ?_; rintro e w9 ⟨rfl, hb9⟩)
    go_ret
    exact ⟨rfl, hbw.trans (hb9.mono hbw.size)⟩
  | true =>
    obtain ⟨hV, hL2, hq0, hq1, hq2⟩ := hRt rfl
    clear hRt
    have hz := block_lt p0
    have Z0 := Lib.hid p0
    have Z1 := Lib.hid p1
    have Z2 := Lib.hid p2
    have Z3 := Lib.hid p3
    have Z4 := Lib.hid p4
    have Z5 := Lib.hid p5
    have Z6 := Lib.hid p6
    have Z7 := Lib.hid p7
    have HBW := Lib.hid hbw
    clear hb hbw
    obtain ⟨-, hLa, -⟩ := lst_line hV
    obtain ⟨U, M, hU, hM, hM0, hM1, hwL, hwM, hMb⟩ := metre_u L q3 hLa hL2
    have hL0 : ¬ L = 0 := by omega
    obtain ⟨m1, m2, m3, m4⟩ := mom_good (lst_sgns hV) (lst_edcs hV)
    have hml := mom_len m1 m2 m3
    have HS0 := Lib.hid ((lst_iff L js l).2 (lst_sgns hV))
    have HE0 : Hid (lstE L js [] q = 0) := Lib.hid (lst_zero (by rw [sgns_nil]; exact edcs_line (lst_edcs hV)) (lst_edcs hV))
    have HMo := Lib.hid (Moments_good L a js ca aa l cl ae q cq hV wX (HI.out.below HBW.out) (HA.out.below HBW.out) (HE.out.below HBW.out))
    have hbh := btw_ge hq0
    have HFr := Lib.hid (fr_spec (mom_asc l q) (fun c hc => mom_in (fun x hx => (m4 x hx).1) hc) hbh.1 hbh.2)
    have HSame : Hid (∀ o, frK (momL l q) q0 (momL l q).length ≤ o → o ≤ toK (momL l q) q0 (momL l q).length → hldV L js l o q1 q2 M = hldV L js l q0 q1 q2 M ∧ mustV q o q2 q1 M = mustV q q0 q2 q1 M) := Lib.hid fun o o0 o1 => by
      have hs := mom_same (fun x hx => (m4 x hx).1) hbh.1 hbh.2 o0 o1
      exact ⟨(hld_hour hs L js q1 q2 M).symm, (must_hour hs q2 q1 M).symm⟩
    have HAsc : Hid (∀ k, 0 < k → k < (momL l q).length → gi (momL l q) (k - 1) < gi (momL l q) k) := Lib.hid fun k h1 h2 => by
      have := (List.pairwise_iff_getElem.1 (mom_asc l q)) (k - 1) k (by omega) (by omega) (by omega)
      rwa [← gi_at _ (by omega), ← gi_at _ (by omega)] at this
    have HBd : Hid (∀ k, k < (momL l q).length → 0 ≤ gi (momL l q) k ∧ gi (momL l q) k ≤ 10000000) := Lib.hid fun k hk => mom_in (fun x hx => (m4 x hx).1) (gi_mem hk)
    obtain ⟨Z, hZ⟩ : ∃ Z, momL l q = Z := ⟨_, rfl⟩
    rw [hZ] at HMo HFr HSame HAsc HBd hml
    clear hZ m1 m2 m3 m4 hV
    have hbq : Below wX.heap.size wX wX := Below.refl _ _
    have HQ0 := Lib.hid hq0
    have HQ1 := Lib.hid hq1
    have HQ2 := Lib.hid hq2
    have HMb := Lib.hid hMb
    have HU := Lib.hid hU
    have HM := Lib.hid hM
    have HwL := Lib.hid hwL
    have HwM := Lib.hid hwM
    have HL0 := Lib.hid hL0
    clear hq0 hq1 hq2 hMb hU hM hwL hwM hL0
    go_wp2_with (go_at_call 8; refine HMo.out.mono ?_; rintro e w9 ⟨zb, zc, rfl, hx, hb9⟩; have HZI := Lib.hid hx; clear hx)
    obtain ⟨-, -, blk, off, hadr, hcz⟩ := HZI.out
    have HZC := Lib.hid hcz
    have HZA : Hid (0 < Z.length → zb = some ⟨blk, off, none⟩) := Lib.hid fun h => hadr (List.ne_nil_of_length_pos h)
    clear hadr hcz HZI HMo p0 p1 p2 p3 p4 p5 p6 p7
    obtain ⟨wM, rfl⟩ : ∃ wM : World, wM = w9 := ⟨_, rfl⟩
    have HBM := Lib.hid (HBW.out.trans (hb9.mono HBW.out.size))
    have Y0 := Lib.hid (cell_below Z0.out hb9)
    have Y1 := Lib.hid (cell_below Z1.out hb9)
    have Y2 := Lib.hid (cell_below Z2.out hb9)
    have Y3 := Lib.hid (cell_below Z3.out hb9)
    have Y4 := Lib.hid (cell_below Z4.out hb9)
    have Y5 := Lib.hid (cell_below Z5.out hb9)
    have Y6 := Lib.hid (cell_below Z6.out hb9)
    have Y7 := Lib.hid (cell_below Z7.out hb9)
    clear Z0 Z1 Z2 Z3 Z4 Z5 Z6 Z7 hbq hb9 hz
    go_loopw [7, 8, 9] (fun f t i wr => ∃ k : Nat, k ≤ Z.length ∧ i = .int .i64 k ∧ f = .int .i64 (frK Z q0 k) ∧ t = .int .i64 (toK Z q0 k) ∧ Below wM.heap.size wM wr) (fun _ _ i _ => Z.length - (intOf i).toNat)
    case atStart => exact ⟨0, Nat.zero_le _, rfl, rfl, rfl, Below.refl _ _⟩
    case round =>
      obtain ⟨k, hk, rfl, rfl, rfl, hbr⟩ := hrel
      by_cases hlt : k < Z.length
      · obtain rfl := HZA.out (by omega)
        have c0 := cell_below (HZC.out k hlt) hbr
        have p4 := cell_below Y4.out hbr
        clear Y0 Y1 Y2 Y3 Y5 Y6 Y7
        have hkl : (k : Int) < (Z.length : Int) := by omega
        have hk00 : (0 : Int) ≤ (k : Int) := by omega
        by_cases hk0 : k = 0
        · obtain rfl : k = 0 := hk0
          have c0 : wr.cell? ⟨blk, off, none⟩ = some (.int .i64 (gi Z 0)) := c0
          obtain ⟨hx0, hx1⟩ := HBd.out 0 hlt
          have HY := Lib.hid (fun (e : gi Z 0 ≤ q0) => fr_yes (h := q0) e)
          have HNo := Lib.hid (fun (e : ¬ gi Z 0 ≤ q0) => fr_no (h := q0) e)
          obtain ⟨⟨f0, f1, f2, f3⟩, -, -⟩ := HFr.out 0 (Nat.zero_le _)
          clear HZC HZA HFr HAsc HBd HSame HS0 HE0 HI HA HE HQ0 HQ1 HQ2 HMb HU HM HwL HwM HL0 HBM
          obtain ⟨fk, hfk⟩ : ∃ x, frK Z q0 0 = x := ⟨_, rfl⟩
          obtain ⟨tk, htk⟩ : ∃ x, toK Z q0 0 = x := ⟨_, rfl⟩
          rw [hfk, htk] at HNo
          rw [hfk] at f0 f1
          rw [htk] at f2 f3
          rw [htk] at HY
          rw [hfk, htk]
          clear hfk htk
          generalize gi Z 0 = x at *
          have e1 : decide (x < 0) = false := decide_eq_false (by omega)
          have e2 : decide (10000000 < x) = false := decide_eq_false (by omega)
          go_wp2_with fail
          go_quiet (fail)
          by_cases hxh : x ≤ q0
          · have e4 : decide (x ≤ q0) = true := decide_eq_true hxh
            obtain ⟨h8, h9⟩ := HY.out (by omega)
            have H8 := Lib.hid h8
            have H9 := Lib.hid h9
            clear h8 h9 HY HNo
            go_wp2_with fail
            go_quiet (fail)
            go_wp2_with fail
            go_roundw
            case rel => exact ⟨0 + 1, by omega, by go_num, by rw [H8.out], by rw [H9.out], below_drewN hbr _⟩
            case measure => simp [intOf]; omega
          · have e4 : decide (x ≤ q0) = false := decide_eq_false hxh
            obtain ⟨h8, h9⟩ := HNo.out (by omega)
            have H8 := Lib.hid h8
            have H9 := Lib.hid h9
            clear h8 h9 HY HNo
            go_wp2_with fail
            go_quiet (fail)
            go_wp2_with fail
            go_roundw
            case rel => exact ⟨0 + 1, by omega, by go_num, by rw [H8.out], by rw [H9.out], below_drewN hbr _⟩
            case measure => simp [intOf]; omega
        · obtain ⟨j, hj⟩ : ∃ j, k = j + 1 := ⟨k - 1, by omega⟩
          have c1 := cell_below (HZC.out j (by omega)) hbr
          have hlt1 : gi Z j < gi Z k := by
            have := HAsc.out k (by omega) hlt
            rwa [show k - 1 = j by omega] at this
          have hji : (k : Int) - 1 = (j : Int) := by omega
          have hjw : IntKind.i64.wrap ((k : Int) - 1) = (j : Int) := by rw [hji]; exact IntWalk.i64_in _ (by omega)
          have hjl : j < Z.length := by omega
          have d0 : decide (0 < k) = true := decide_eq_true (by omega)
          have d00 : decide ((0 : Int) < (k : Int)) = true := decide_eq_true (by omega)
          clear hj
          obtain ⟨hx0, hx1⟩ := HBd.out k hlt
          have HY := Lib.hid (fun (e : gi Z k ≤ q0) => fr_yes (h := q0) e)
          have HNo := Lib.hid (fun (e : ¬ gi Z k ≤ q0) => fr_no (h := q0) e)
          obtain ⟨⟨f0, f1, f2, f3⟩, -, -⟩ := HFr.out k hk
          clear HZC HZA HFr HAsc HBd HSame HS0 HE0 HI HA HE HQ0 HQ1 HQ2 HMb HU HM HwL HwM HL0 HBM
          obtain ⟨fk, hfk⟩ : ∃ x, frK Z q0 k = x := ⟨_, rfl⟩
          obtain ⟨tk, htk⟩ : ∃ x, toK Z q0 k = x := ⟨_, rfl⟩
          rw [hfk, htk] at HNo
          rw [hfk] at f0 f1
          rw [htk] at f2 f3
          rw [htk] at HY
          rw [hfk, htk]
          clear hfk htk
          generalize gi Z j = y at *
          generalize gi Z k = x at *
          have e1 : decide (x < 0) = false := decide_eq_false (by omega)
          have e2 : decide (10000000 < x) = false := decide_eq_false (by omega)
          have e3 : decide (x ≤ y) = false := decide_eq_false (by omega)
          go_wp2_with fail
          go_quiet (fail)
          by_cases hxh : x ≤ q0
          · have e4 : decide (x ≤ q0) = true := decide_eq_true hxh
            obtain ⟨h8, h9⟩ := HY.out (by omega)
            have H8 := Lib.hid h8
            have H9 := Lib.hid h9
            clear h8 h9 HY HNo
            go_wp2_with fail
            go_quiet (fail)
            go_wp2_with fail
            go_roundw
            case rel => exact ⟨k + 1, by omega, by go_num, by rw [H8.out], by rw [H9.out], below_drewN hbr _⟩
            case measure => simp [intOf]; omega
          · have e4 : decide (x ≤ q0) = false := decide_eq_false hxh
            obtain ⟨h8, h9⟩ := HNo.out (by omega)
            have H8 := Lib.hid h8
            have H9 := Lib.hid h9
            clear h8 h9 HY HNo
            go_wp2_with fail
            go_quiet (fail)
            go_wp2_with fail
            go_roundw
            case rel => exact ⟨k + 1, by omega, by go_num, by rw [H8.out], by rw [H9.out], below_drewN hbr _⟩
            case measure => simp [intOf]; omega
      · obtain rfl : k = Z.length := by omega
        obtain ⟨⟨f0, f1, f2, f3⟩, -, -⟩ := HFr.out Z.length (Nat.le_refl _)
        clear HFr HZC HZA HAsc HBd
        generalize frK Z q0 Z.length = fz at *
        generalize toK Z q0 Z.length = tz at *
        obtain ⟨d, hd⟩ : ∃ d, pt.tmod (tz - fz + 1) = d := ⟨_, rfl⟩
        have hd0 : 0 ≤ d ∧ d ≤ tz - fz := by
          have h1 := Int.tmod_nonneg (tz - fz + 1) hw0
          have h2 := Int.tmod_lt_of_pos pt (show (0 : Int) < tz - fz + 1 by omega)
          omega
        have hwp : wrap64 pt = pt := by unfold wrap64; omega
        have hs1 : IntKind.i64.wrap (tz - fz) = tz - fz := by rw [IntWalk.i64_left]; unfold wrap64; omega
        have hne0 : ¬ tz - fz + 1 = 0 := by omega
        obtain ⟨o, ho⟩ : ∃ o, fz + d = o := ⟨_, rfl⟩
        have hob : 0 ≤ o ∧ o ≤ 10000000 := by omega
        have hwo : wrap64 (fz + d) = o := by rw [ho]; unfold wrap64; omega
        obtain ⟨hh1, hh2⟩ := HSame.out o (by omega) (by omega)
        have HQo : Hid (btw o 0 10000000 = true) := Lib.hid (by unfold btw; rw [decide_eq_true hob.1, decide_eq_true hob.2]; rfl)
        have HBr := Lib.hid (HBM.out.trans (hbr.mono HBM.out.size))
        obtain ⟨V, hV1⟩ : ∃ V, hldV L js l q0 q1 q2 M = V := ⟨_, rfl⟩
        obtain ⟨VM, hV2⟩ : ∃ V, mustV q q0 q2 q1 M = V := ⟨_, rfl⟩
        have HO1 := Lib.hid (fun W (hW : Below wr.heap.size wr W) => show Calls Tryz.prog 18 #[.agg #[.int .i64 L, .slice a js.length ca], .slice aa l.length cl, .int .i64 q0, .int .i64 q1, .int .i64 q2, .int .i64 M] W (NumA V 0 W) by
          have h9 := Holds_good L a js ca aa l cl q0 q1 q2 M HS0.out HQ0.out HQ1.out HQ2.out HMb.out W (HI.out.below (HBr.out.trans (hW.mono HBr.out.size))) (HA.out.below (HBr.out.trans (hW.mono HBr.out.size)))
          rw [hV1] at h9
          exact h9)
        have HO2 := Lib.hid (fun W (hW : Below wr.heap.size wr W) => show Calls Tryz.prog 18 #[.agg #[.int .i64 L, .slice a js.length ca], .slice aa l.length cl, .int .i64 o, .int .i64 q1, .int .i64 q2, .int .i64 M] W (NumA V 0 W) by
          have h9 := Holds_good L a js ca aa l cl o q1 q2 M HS0.out HQo.out HQ1.out HQ2.out HMb.out W (HI.out.below (HBr.out.trans (hW.mono HBr.out.size))) (HA.out.below (HBr.out.trans (hW.mono HBr.out.size)))
          rw [hh1, hV1] at h9
          exact h9)
        have HM1 := Lib.hid (fun W (hW : Below wr.heap.size wr W) => show Calls Tryz.prog 19 #[.agg #[.int .i64 L, .slice a js.length ca], .slice ae q.length cq, .int .i64 q0, .int .i64 q1, .int .i64 q2, .int .i64 M] W (NumA VM 0 W) by
          have h9 := Must_good L a js ca ae q cq q0 q1 q2 M HE0.out HQ0.out HQ1.out HQ2.out HMb.out W (HI.out.below (HBr.out.trans (hW.mono HBr.out.size))) (HE.out.below (HBr.out.trans (hW.mono HBr.out.size)))
          rw [hV2] at h9
          exact h9)
        have HM2 := Lib.hid (fun W (hW : Below wr.heap.size wr W) => show Calls Tryz.prog 19 #[.agg #[.int .i64 L, .slice a js.length ca], .slice ae q.length cq, .int .i64 o, .int .i64 q1, .int .i64 q2, .int .i64 M] W (NumA VM 0 W) by
          have h9 := Must_good L a js ca ae q cq o q1 q2 M HE0.out HQo.out HQ1.out HQ2.out HMb.out W (HI.out.below (HBr.out.trans (hW.mono HBr.out.size))) (HE.out.below (HBr.out.trans (hW.mono HBr.out.size)))
          rw [hh2, hV2] at h9
          exact h9)
        have p0 := cell_below Y0.out hbr
        have p1 := cell_below Y1.out hbr
        have p2 := cell_below Y2.out hbr
        have p3 := cell_below Y3.out hbr
        have p4 := cell_below Y4.out hbr
        have p5 := cell_below Y5.out hbr
        have p6 := cell_below Y6.out hbr
        have p7 := cell_below Y7.out hbr
        have hbq : Below wr.heap.size wr wr := Below.refl _ _
        have n1 : (V == V) = true := by simp
        have n2 : (VM == VM) = true := by simp
        have hU := HU.out
        have hM := HM.out
        have hwL := HwL.out
        have hwM := HwM.out
        have hL0 := HL0.out
        clear hh1 hh2 hV1 hV2 HI HA HE HQ0 HQ1 HQ2 HQo HMb HS0 HE0 HSame HU HM HwL HwM HL0 HBM Y0 Y1 Y2 Y3 Y4 Y5 Y6 Y7 hlt hk
        go_wp2_with (first | (go_at_call 18; (with_reducible refine Calls.mono (HO1.out _ hbq) ?_); rintro e w9 ⟨rfl, hb9⟩; replace hbq := hbq.trans (hb9.mono hbq.size); replace p0 := cell_below p0 hb9; replace p1 := cell_below p1 hb9; replace p2 := cell_below p2 hb9; replace p3 := cell_below p3 hb9; replace p4 := cell_below p4 hb9; replace p5 := cell_below p5 hb9; replace p6 := cell_below p6 hb9; replace p7 := cell_below p7 hb9; clear hb9) | (go_at_call 18; (with_reducible refine Calls.mono (HO2.out _ hbq) ?_); rintro e w9 ⟨rfl, hb9⟩; replace hbq := hbq.trans (hb9.mono hbq.size); replace p0 := cell_below p0 hb9; replace p1 := cell_below p1 hb9; replace p2 := cell_below p2 hb9; replace p3 := cell_below p3 hb9; replace p4 := cell_below p4 hb9; replace p5 := cell_below p5 hb9; replace p6 := cell_below p6 hb9; replace p7 := cell_below p7 hb9; clear hb9) | (go_at_call 19; (with_reducible refine Calls.mono (HM1.out _ hbq) ?_); rintro e w9 ⟨rfl, hb9⟩; replace hbq := hbq.trans (hb9.mono hbq.size); replace p0 := cell_below p0 hb9; replace p1 := cell_below p1 hb9; replace p2 := cell_below p2 hb9; replace p3 := cell_below p3 hb9; replace p4 := cell_below p4 hb9; replace p5 := cell_below p5 hb9; replace p6 := cell_below p6 hb9; replace p7 := cell_below p7 hb9; clear hb9) | (go_at_call 19; (with_reducible refine Calls.mono (HM2.out _ hbq) ?_); rintro e w9 ⟨rfl, hb9⟩; replace hbq := hbq.trans (hb9.mono hbq.size); replace p0 := cell_below p0 hb9; replace p1 := cell_below p1 hb9; replace p2 := cell_below p2 hb9; replace p3 := cell_below p3 hb9; replace p4 := cell_below p4 hb9; replace p5 := cell_below p5 hb9; replace p6 := cell_below p6 hb9; replace p7 := cell_below p7 hb9; clear hb9) | (go_at_call 7; refine (first_any _).mono ?_; rintro e w8 ⟨rfl, hb8⟩))
        go_ret
        exact ⟨rfl, HBr.out.trans ((hbq.trans (hb8.mono hbq.size)).mono HBr.out.size)⟩
end Go.Proofs.YtjoffnbpaebgjaaGreat

namespace Go.Proofs.YtjoffnbpaebgjaaGreat
set_option linter.unusedVariables false
set_option linter.unusedSimpArgs false
open Go.RowKit Go.ChangeShapes Go.WideShapes Go.ChangeAt
set_option maxRecDepth 100000

theorem cInt : Tryz.prog.cellsOf 3 = 1 := by kernel_rfl
theorem cInts : Tryz.prog.cellsOf 22 = 1 := by kernel_rfl
section
variable {H : Type} {enc : TypeId × Value → H} {W : World} {base : Nat} {sp : Nat → Bool} {held : Bool}

/-- A cell that reads as an int. -/
theorem part_int {n : Nat} {c : Value} {o : Option (DataW H × List MemPlace)} {y : DataW H × List MemPlace} (ho : o = some y) (h : DataW.trod enc Tryz.prog W base sp held n 3 [c] = o) : ∃ z : Int, c = .int .i64 z ∧ I64 z := by
  obtain ⟨z, e, _, hw⟩ := DataW.trod_int Tryz.underlying3 (h.trans ho)
  exact ⟨z, by simpa using e, bounds_i64 hw⟩
theorem add_at {a : Addr} (h : a.spot = none) (n : Nat) : a.add n = ⟨a.block, a.off + n, none⟩ := by
  unfold Addr.add
  split
  · rename_i h0; subst h0; cases a; simp only at h; subst h; rfl
  · rfl
theorem add_zero (a : Addr) : a.add 0 = a := by unfold Addr.add; simp
theorem spot_none {w : World} {a : Addr} {v : Value} (h : w.cell? a = some v) : a.spot = none := by
  unfold World.cell? at h
  split at h
  · split at h
    · cases h
    · rename_i hs; simpa using hs
  · cases h
theorem addr_of {a : Addr} (h : a.spot = none) : a = ⟨a.block, a.off, none⟩ := by cases a; simp only at h; subst h; rfl
theorem gi_map (f : Nat → Int) {n i : Nat} (h : i < n) : gi ((List.range n).map f) i = f i := by
  unfold gi; rw [List.getD_eq_getElem?_getD, List.getElem?_map, List.getElem?_range h]; rfl
theorem gp_map (f : Nat → Int × Int) {n i : Nat} (h : i < n) : gp ((List.range n).map f) i = f i := by
  unfold gp; rw [List.getD_eq_getElem?_getD, List.getElem?_map, List.getElem?_range h]; rfl
theorem gr_map (f : Nat → List Int) {n i : Nat} (h : i < n) : gr ((List.range n).map f) i = f i := by
  unfold gr; rw [List.getD_eq_getElem?_getD, List.getElem?_map, List.getElem?_range h]; rfl
theorem ne_pos {α : Type} {f : Nat → α} {n : Nat} (h : (List.range n).map f ≠ []) : 0 < n := by
  apply Nat.pos_of_ne_zero
  rintro rfl
  exact h rfl

theorem open_ints {fuel : Nat} {v : Value} {y : DataW H × List MemPlace} (h : DataW.trod enc Tryz.prog W base sp held fuel 22 [v] = some y) :
    ∃ (a : Option Addr) (l : List Int) (cap : Nat), v = .slice a l.length cap ∧ IntsS W a l ∧ l.length ≤ cap := by
  rcases Go.Deep.open_slice1 Tryz.underlying22 cInt h with ⟨hcs, _⟩ | ⟨a, len, cap, m, n, V, D, Pl, hcs, hb, hl, hm, hmm, hx, hi⟩
  · obtain rfl : v = .slice none 0 0 := by simpa using hcs
    exact ⟨none, [], 0, rfl, ⟨by simp, fun i hi => absurd hi (Nat.not_lt_zero _), 0, 0, (fun h => absurd rfl h), fun i hi => absurd hi (Nat.not_lt_zero _)⟩, Nat.le_refl _⟩
  · obtain rfl : v = .slice (some a) len cap := by simpa using hcs
    have hlm : len ≤ m := by rw [hmm]; split <;> omega
    have key0 : ∀ i, i < len → ∃ x : Int, W.cell? (a.add i) = some (.int .i64 x) ∧ I64 x := fun i hil => by
      obtain ⟨hc, ht⟩ := hi i (by omega)
      obtain ⟨z, hz, hb⟩ := part_int rfl ht
      exact ⟨z, by rw [hc, hz], hb⟩
    have hspot : 0 < len → a.spot = none := fun h0 => by
      obtain ⟨x, hc, _⟩ := key0 0 h0
      rw [add_zero] at hc
      exact spot_none hc
    obtain ⟨f, hf⟩ := Go.Deep.choose_lt (α := Int) (n := len) (p := fun i x => W.cell? (a.add i) = some (.int .i64 x) ∧ I64 x) key0
    refine ⟨some a, (List.range len).map f, cap, by simp, ⟨by simp; unfold maxLen at hm; omega, ?_, a.block, a.off, ?_, ?_⟩, by simpa using hl⟩
    · intro i hi
      have hi : i < len := by simpa using hi
      rw [gi_map f hi]
      exact (hf i hi).2
    · intro hne
      rw [← addr_of (hspot (ne_pos hne))]
    · intro i hi
      have hi : i < len := by simpa using hi
      rw [gi_map f hi, ← add_at (hspot (by omega))]
      exact (hf i hi).1

/-- A slice of structs of two ints. -/
theorem open_pairs {t e : TypeId} {f0 f1 : Field} (ht : Tryz.prog.underlying t = some (.slice e)) (he : Tryz.prog.underlying e = some (.struct #[f0, f1])) (hC : Tryz.prog.cellsOf e = 2) (o0 : f0.offset = 0) (o1 : f1.offset = 1) (t0 : f0.type = 3) (t1 : f1.type = 3)
    {fuel : Nat} {v : Value} {y : DataW H × List MemPlace} (h : DataW.trod enc Tryz.prog W base sp held fuel t [v] = some y) :
    ∃ (a : Option Addr) (l : List (Int × Int)) (cap : Nat), v = .slice a l.length cap ∧ PairsS W a l := by
  rcases Go.Deep.open_slice ht h with ⟨hcs, _⟩ | ⟨a, len, cap, m, n, D, Pl, hcs, hb, hl, hm, hmm, hx, hi⟩
  · obtain rfl : v = .slice none 0 0 := by simpa using hcs
    exact ⟨none, [], 0, rfl, by simp, fun i hi => absurd hi (Nat.not_lt_zero _), 0, 0, (fun h => absurd rfl h), fun i hi => absurd hi (Nat.not_lt_zero _)⟩
  · obtain rfl : v = .slice (some a) len cap := by simpa using hcs
    have hlm : len ≤ m := by rw [hmm]; split <;> omega
    rw [hC] at hi
    have key0 : ∀ i, i < len → ∃ x : Int × Int, (W.cell? ((a.add (i * 2)).add 0) = some (.int .i64 x.1) ∧ W.cell? ((a.add (i * 2)).add 1) = some (.int .i64 x.2)) ∧ (I64 x.1 ∧ I64 x.2) := fun i hil => by
      obtain ⟨cs, hc, htr⟩ := hi i (by omega)
      obtain ⟨hcl, _, hat⟩ := World.cells?_some hc
      match cs, hcl with
      | [c0, c1], _ =>
        obtain ⟨y0, y1, n', _, _, g0, g1⟩ := trod_struct2 he htr
        rw [o0, t0, cInt] at g0
        rw [o1, t1, cInt] at g1
        obtain ⟨z0, rfl, b0⟩ := part_int rfl g0
        obtain ⟨z1, rfl, b1⟩ := part_int rfl g1
        exact ⟨(z0, z1), ⟨hat 0 (by decide), hat 1 (by decide)⟩, b0, b1⟩
    have hspot : 0 < len → a.spot = none := fun h0 => by
      obtain ⟨x, ⟨hc, _⟩, _⟩ := key0 0 h0
      rw [show 0 * 2 = 0 from rfl, add_zero, add_zero] at hc
      exact spot_none hc
    obtain ⟨f, hf⟩ := Go.Deep.choose_lt (α := Int × Int) (n := len) (p := fun i x => (W.cell? ((a.add (i * 2)).add 0) = some (.int .i64 x.1) ∧ W.cell? ((a.add (i * 2)).add 1) = some (.int .i64 x.2)) ∧ (I64 x.1 ∧ I64 x.2)) key0
    refine ⟨some a, (List.range len).map f, cap, by simp, by simp; unfold maxLen at hm; omega, ?_, a.block, a.off, ?_, ?_⟩
    · intro i hi
      have hi : i < len := by simpa using hi
      rw [gp_map f hi]
      exact (hf i hi).2
    · intro hne
      rw [← addr_of (hspot (ne_pos hne))]
    · intro i hi
      have hi : i < len := by simpa using hi
      have hs := hspot (by omega)
      have := (hf i hi).1
      rw [add_at hs, add_zero, add_at rfl] at this
      rw [gp_map f hi]
      exact this
theorem part_ints {fuel : Nat} {c : Value} {o : Option (DataW H × List MemPlace)} {y : DataW H × List MemPlace} (ho : o = some y) (h : DataW.trod enc Tryz.prog W base sp held fuel 22 [c] = o) :
    ∃ (a : Option Addr) (l : List Int) (cap : Nat), c = .slice a l.length cap ∧ IntsS W a l ∧ l.length ≤ cap := open_ints (h.trans ho)
theorem cSpan : Tryz.prog.cellsOf 74 = 2 := by kernel_rfl
theorem part_two {t : TypeId} {f0 f1 : Field} (he : Tryz.prog.underlying t = some (.struct #[f0, f1])) (o0 : f0.offset = 0) (o1 : f1.offset = 1) (t0 : f0.type = 3) (t1 : f1.type = 3)
    {fuel : Nat} {c0 c1 : Value} {o : Option (DataW H × List MemPlace)} {y : DataW H × List MemPlace} (hs : o = some y) (h : DataW.trod enc Tryz.prog W base sp held fuel t [c0, c1] = o) :
    ∃ z0 z1 : Int, c0 = .int .i64 z0 ∧ c1 = .int .i64 z1 ∧ I64 z0 ∧ I64 z1 := by
  obtain ⟨y0, y1, n, _, _, g0, g1⟩ := trod_struct2 he (h.trans hs)
  rw [o0, t0, cInt] at g0
  rw [o1, t1, cInt] at g1
  obtain ⟨z0, rfl, b0⟩ := part_int rfl g0
  obtain ⟨z1, rfl, b1⟩ := part_int rfl g1
  exact ⟨z0, z1, rfl, rfl, b0, b1⟩
theorem okWide_array {r : Reach} {b0 : Nat} {t : TypeId} {n : Nat} {e : TypeId} {v : Value} (ht : Tryz.prog.underlying t = some (.array n e)) (h : Value.okWide Tryz.prog W r b0 t v) : ∃ cs : Array Value, v = .agg cs ∧ cs.size = Tryz.prog.cellsOf t := by
  simp only [Value.okWide, ht] at h
  obtain ⟨cs, h1, h2, _⟩ := h
  exact ⟨cs, h1, h2⟩

/-- Two numbers of a small kind. -/
theorem open_duo {t e : TypeId} {k : IntKind} (ht : Tryz.prog.underlying t = some (.array 2 e)) (he : Tryz.prog.underlying e = some (.int k)) (hC : Tryz.prog.cellsOf t = 2) (hE : Tryz.prog.cellsOf e = 1) {v : Value} {d : DataW H} {p : List MemPlace} (hv : Value.okWide Tryz.prog W .any base t v) (h : DataW.Trod enc Tryz.prog W 0 sp held t v d p) :
    ∃ m n : Int, v = .agg #[.int k m, .int k n] ∧ (Lit.int k m).wf = true ∧ (Lit.int k n).wf = true := by
  obtain ⟨⟨cs⟩, rfl, hsz⟩ := okWide_array ht hv
  match cs, hsz.trans hC with
  | [c0, c1], _ =>
    obtain ⟨fuel, hf⟩ := h
    obtain ⟨xs, n, _, _, _, hlen, hg⟩ := DataW.trod_array ht hf
    match xs, hlen with
    | [u0, u1], _ =>
      have g0 := hg 0 (by omega)
      have g1 := hg 1 (by omega)
      rw [hE] at g0 g1
      obtain ⟨z0, e0, _, w0⟩ := DataW.trod_int he (show DataW.trod enc Tryz.prog W 0 sp held n e [c0] = some u0 from g0)
      obtain ⟨z1, e1, _, w1⟩ := DataW.trod_int he (show DataW.trod enc Tryz.prog W 0 sp held n e [c1] = some u1 from g1)
      obtain rfl : c0 = .int k z0 := by simpa using e0
      obtain rfl : c1 = .int k z1 := by simpa using e1
      exact ⟨z0, z1, rfl, w0, w1⟩
theorem open_spans {fuel : Nat} {c : Value} {y : DataW H × List MemPlace} (h : DataW.trod enc Tryz.prog W base sp held fuel 56 [c] = some y) : ∃ (a : Option Addr) (l : List (Int × Int)) (cap : Nat), c = .slice a l.length cap ∧ PairsS W a l :=
  open_pairs Tryz.underlying56 Tryz.underlying74 cSpan rfl rfl rfl rfl h
theorem open_spansV {v : Value} {d : DataW H} {p : List MemPlace} (hv : Value.okWide Tryz.prog W .any base 56 v) (h : DataW.Trod enc Tryz.prog W 0 sp held 56 v d p) :
    ∃ (a : Option Addr) (l : List (Int × Int)) (cap : Nat), v = .slice a l.length cap ∧ PairsS W a l := by
  obtain ⟨a, n, c, rfl⟩ := okWide_slice Tryz.underlying56 hv
  obtain ⟨fuel, hf⟩ := h
  exact open_spans hf
theorem open_intsV {v : Value} {d : DataW H} {p : List MemPlace} (hv : Value.okWide Tryz.prog W .any base 22 v) (h : DataW.Trod enc Tryz.prog W 0 sp held 22 v d p) :
    ∃ (a : Option Addr) (l : List Int) (cap : Nat), v = .slice a l.length cap ∧ IntsS W a l ∧ l.length ≤ cap := by
  obtain ⟨a, n, c, rfl⟩ := okWide_slice Tryz.underlying22 hv
  obtain ⟨fuel, hf⟩ := h
  exact open_ints hf
end
end Go.Proofs.YtjoffnbpaebgjaaGreat
