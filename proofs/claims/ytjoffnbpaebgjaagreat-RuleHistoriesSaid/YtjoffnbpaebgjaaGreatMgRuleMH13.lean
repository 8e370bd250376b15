/-
  Between the cuts of a course nothing changes: what holds, and what must hold, as stretches. By an AI agent.; The moments of signs and edicts, as a list. By an AI agent.; maps.Keys and slices.Sorted of it at the map of hours. By an AI agent.; Lists of signs made of others: what speaks, what is covered, what plays no part. By an AI agent.
-/
import Derived.Test.YtjoffnbpaebgjaaGreatMgRuleMH2
import Derived.Test.YtjoffnbpaebgjaaGreatMgRuleMH10
import Derived.Test.YtjoffnbpaebgjaaGreatMgRuleMH11
import Derived.Test.YtjoffnbpaebgjaaGreatMgRuleMH12
import Derived.Shelf.SortM.Plain
import Derived.Shelf.SortM.SortNone
import Derived.Shelf.AbstractIn

namespace Go.Proofs.YtjoffnbpaebgjaaGreat
set_option linter.unusedVariables false
set_option linter.unusedSimpArgs false
open Go.RowKit

theorem gi_mem {z : List Int} {k : Nat} (h : k < z.length) : gi z k ∈ z := by rw [gi_at z h]; exact List.getElem_mem h
theorem asc_lt (cuts : List Int) {i j : Nat} (hij : i < j) (hj : j < (ascL cuts).length) : gi (ascL cuts) i < gi (ascL cuts) j := by
  rw [gi_at _ (by omega), gi_at _ hj]
  exact (List.pairwise_iff_getElem.1 (asc_pw cuts)) i j (by omega) hj hij
theorem asc_ends {cuts : List Int} {A B : Int} (hA : A ∈ cuts) (hB : B ∈ cuts) (h : ∀ c, c ∈ cuts → A ≤ c ∧ c ≤ B) : gi (ascL cuts) 0 = A ∧ gi (ascL cuts) ((ascL cuts).length - 1) = B ∧ 0 < (ascL cuts).length := by
  have hp : 0 < (ascL cuts).length := asc_pos (by rintro rfl; cases hA)
  have hm : ∀ k, k < (ascL cuts).length → A ≤ gi (ascL cuts) k ∧ gi (ascL cuts) k ≤ B := fun k hk => h _ ((asc_iff cuts _).1 (gi_mem hk))
  obtain ⟨i, hi, ei⟩ := List.getElem_of_mem ((asc_iff cuts A).2 hA)
  obtain ⟨j, hj, ej⟩ := List.getElem_of_mem ((asc_iff cuts B).2 hB)
  rw [← gi_at _ hi] at ei
  rw [← gi_at _ hj] at ej
  refine ⟨?_, ?_, hp⟩
  · by_cases e : i = 0
    · rw [← ei, e]
    · have := asc_lt cuts (i := 0) (j := i) (by omega) hi
      have := (hm 0 hp).1
      omega
  · by_cases e : j = (ascL cuts).length - 1
    · rw [← ej, e]
    · have := asc_lt cuts (i := j) (j := (ascL cuts).length - 1) (by omega) (by omega)
      have := (hm ((ascL cuts).length - 1) (by omega)).2
      omega
/-- A function that hangs on how a place lies to the cuts alone. -/
theorem asc_const {V : Type} {cuts : List Int} {f : Int → V} (h : ∀ a m : Int, (∀ c, c ∈ cuts → (a < c ↔ m < c)) → f m = f a) (k : Nat) (hk : k + 1 < (ascL cuts).length) (i : Int) (h1 : gi (ascL cuts) k ≤ i) (h2 : i < gi (ascL cuts) (k + 1)) : f i = f (gi (ascL cuts) k) := by
  refine h _ _ fun c hc => ?_
  obtain ⟨j, hj, e⟩ := List.getElem_of_mem ((asc_iff cuts c).2 hc)
  rw [← gi_at _ hj] at e
  by_cases hjk : j ≤ k
  · have : gi (ascL cuts) j ≤ gi (ascL cuts) k := by
      by_cases e2 : j = k
      · rw [e2]; exact Int.le_refl _
      · exact Int.le_of_lt (asc_lt cuts (by omega) (by omega))
    omega
  · have : gi (ascL cuts) (k + 1) ≤ gi (ascL cuts) j := by
      by_cases e2 : j = k + 1
      · rw [e2]; exact Int.le_refl _
      · exact Int.le_of_lt (asc_lt cuts (by omega) hj)
    omega
theorem strV_congr {V : Type} [DecidableEq V] [Inhabited V] {sk : V → Bool} {f g : Int → V} : ∀ n : Nat, (∀ i : Nat, i < n → f i = g i) → strV sk f n = strV sk g n
  | 0, _ => rfl
  | n + 1, h => by rw [strV, strV, strV_congr n (fun i hi => h i (by omega)), h n (by omega)]
/-- The stretches of a function along a line. -/
def strS (L : Int) (f : Int → Int) : List Tri := strV (fun v : Int => v == 0) f L.toNat
theorem strS_congr {L : Int} {f g : Int → Int} (h : ∀ m : Int, 0 ≤ m → m < L → f m = g m) : strS L f = strS L g := strV_congr _ fun i hi => h i (by omega) (by omega)
theorem held_cuts {cuts : List Int} {L : Int} {f : Int → Int} (hL : 0 ≤ L) (hA : 0 ∈ cuts) (hB : L ∈ cuts) (hb : ∀ c, c ∈ cuts → 0 ≤ c ∧ c ≤ L) (h : ∀ a m : Int, (∀ c, c ∈ cuts → (a < c ↔ m < c)) → f m = f a) : heldL (prtK (ascL cuts) f (ascL cuts).length) = strS L f := by
  obtain ⟨e1, e2, e3⟩ := asc_ends hA hB hb
  have := parts_all (sk := fun v : Int => v == 0) (asc_pw cuts) e1 e2 e3 (fun k hk i h1 h2 => asc_const (f := f) h k hk i h1 h2)
  rw [← prtK_V] at this
  exact this
theorem line_jct {L : Int} {js : List Int} (h : lineB L js = true) : ∀ j, j < js.length → 0 < gi js j ∧ gi js j < L := by
  unfold lineB at h
  simp only [Bool.and_eq_true, decide_eq_true_eq, Bool.not_eq_true'] at h
  have hj : ∀ j, j < js.length → jOk L js j = true := fun j hj => by simpa using (anyK_iff _).1 h.2 j hj
  intro j hjl
  have h0 := jOk_pos (L := L) j (fun i hi => hj i (by omega))
  have h3 := hj j hjl
  unfold jOk at h3
  simp only [Bool.and_eq_true, decide_eq_true_eq] at h3
  omega
theorem lst_line {L : Int} {js : List Int} {l : List Sgn} {q : List Edc} (h : lstE L js l q = 0) : lineB L js = true ∧ 1 ≤ L ∧ L ≤ 100000 := by
  unfold lstE at h
  split at h
  · cases h
  next h1 =>
  have h1 : lineB L js = true := by simpa using h1
  have g := h1
  unfold lineB at g
  simp only [Bool.and_eq_true, decide_eq_true_eq] at g
  have := btw_ge g.1.1
  exact ⟨h1, this.1, this.2⟩
theorem dst_in {L dir c : Int} (hd : dirB dir = true) (h1 : 0 ≤ c) (h2 : c ≤ L) : 0 ≤ dstK L dir c ∧ dstK L dir c ≤ L := by
  unfold dstK; split <;> omega
theorem dst_dst {L dir c : Int} : dstK L dir (dstK L dir c) = c := by
  unfold dstK; split <;> omega
theorem opn_in {L : Int} {js : List Int} {dir d : Int} (hd : d ≤ L) (hJ : ∀ j, j < js.length → dstK L dir (gi js j) ≤ L) : ∀ n, n ≤ js.length → d ≤ opnK L js dir d n ∧ opnK L js dir d n ≤ L
  | 0, _ => ⟨hd, Int.le_refl _⟩
  | n + 1, hn => by
    have ih := opn_in hd hJ n (by omega)
    have hj := hJ n (by omega)
    rw [opnK]
    split
    · rw [Int.min_def]; split <;> omega
    · exact ih
/-- The signs of good lists. -/
theorem sgn_in {L : Int} {js : List Int} {l : List Sgn} (h : sgnsB L js l = true) (j : Nat) (hj : j < l.length) : sgnB L (gs l j) = true := by
  unfold sgnsB at h
  simp only [Bool.and_eq_true, decide_eq_true_eq] at h
  have hA := h.1.2
  unfold allB at hA
  simp only [Bool.not_eq_true'] at hA
  simpa using (anyK_iff _).1 hA j hj
theorem sgn_c {L : Int} {s : Sgn} (h : sgnB L s = true) : 0 ≤ s.c ∧ s.c ≤ L := by
  unfold sgnB at h
  simp only [Bool.and_eq_true, decide_eq_true_eq] at h
  have := btw_ge h.1.1.1.1.1.2
  omega
theorem row_in {L : Int} {js : List Int} {dir h : Int} {l : List Sgn} {q : List Edc} {row : List Pst} (hV : lstE L js l q = 0) (hd : dirB dir = true) (H : RowL L js dir h l row) (i : Nat) (hi : i < row.length) : (0 ≤ (gq row i).d ∧ (gq row i).d ≤ L) ∧ 0 ≤ (gq row i).u ∧ (gq row i).u ≤ L := by
  obtain ⟨hl, hL1, hL2⟩ := lst_line hV
  have hsb := lst_sgns hV
  have hval := (lst_good hV).2.2.1
  obtain ⟨e1, ⟨j, hj, e2, -⟩, e3, -⟩ := row_elem H i hi
  have hc := sgn_c (sgn_in hsb j hj)
  rw [← e2] at hc
  have h1 := dst_in hd hc.1 hc.2
  have h2 := opn_in (dir := dir) h1.2 (fun j hj => by
    have := line_jct hl j hj
    exact (dst_in hd (by omega) (by omega)).2) js.length (Nat.le_refl _)
  rw [e1, e3]
  refine ⟨h1, ?_⟩
  split
  next hp =>
    obtain ⟨-, ⟨j2, hj2, e4, -⟩, -, -⟩ := row_elem H (i + 1) hp.1
    have := (hval j2 hj2).2
    rw [← e4] at this
    rw [Int.min_def]
    split <;> omega
  · omega
theorem cutsK_mem {L dir : Int} {row : List Pst} : ∀ n, n ≤ row.length → ∀ c, c ∈ cutsK L dir row n ↔ c = 0 ∨ c = L ∨ ∃ i, i < n ∧ (c = dstK L dir (gq row i).d ∨ c = dstK L dir (gq row i).u)
  | 0, _, c => by simp [cutsK]
  | n + 1, hn, c => by
    rw [cutsK, List.mem_append, cutsK_mem n (by omega) c]
    simp only [List.mem_cons, List.not_mem_nil, or_false]
    constructor
    · rintro ((h | h | ⟨i, hi, h⟩) | h)
      · exact .inl h
      · exact .inr (.inl h)
      · exact .inr (.inr ⟨i, by omega, h⟩)
      · exact .inr (.inr ⟨n, by omega, h⟩)
    · rintro (h | h | ⟨i, hi, h⟩)
      · exact .inl (.inl h)
      · exact .inl (.inr (.inl h))
      · by_cases e : i = n
        · rw [e] at h; exact .inr h
        · exact .inl (.inr (.inr ⟨i, by omega, h⟩))
theorem hld_same {t k k' : Int} : ∀ (row : List Pst), (∀ p, p ∈ row → (k < p.d ↔ k' < p.d) ∧ (p.u ≤ k ↔ p.u ≤ k')) → ∀ v, hldL t k row v = hldL t k' row v
  | [], _, v => rfl
  | p :: r, h, v => by
    obtain ⟨h1, h2⟩ := h p (by simp)
    rw [hldL, hldL]
    have e : stpK p t k v = stpK p t k' v := by
      unfold stpK
      rw [ifc h2]
    rw [ifc h1, e, hld_same r (fun x hx => h x (by simp [hx]))]
theorem beg_lt {L dir m c : Int} (hd : dirB dir = true) : begK L dir m < c ↔ (if dir = 1 then m < dstK L dir c else ¬ m < dstK L dir c) := by
  unfold begK dstK
  by_cases h : dir = 1
  · rw [if_pos h, if_pos h, if_pos h]
  · rw [if_neg h, if_neg h, if_neg h]; omega
/-- What Held says of a row that the program makes: the stretches of what holds on each metre. -/
def heldS (L : Int) (js : List Int) (l : List Sgn) (h dir t : Int) : List Tri := strS L (fun m => hldV L js l h dir t m)
theorem told_const {L : Int} {js : List Int} {dir h t : Int} {l : List Sgn} {q : List Edc} {row : List Pst} (hV : lstE L js l q = 0) (hd : dirB dir = true) (H : RowL L js dir h l row) (a m : Int) (hc : ∀ c, c ∈ cutsK L dir row row.length → (a < c ↔ m < c)) : hldL t (begK L dir m) row 0 = hldL t (begK L dir a) row 0 := by
  refine hld_same row (fun p hp => ?_) 0
  obtain ⟨i, hi, e⟩ := List.getElem_of_mem hp
  have eg : gq row i = p := by unfold gq; simp [hi, e]
  have m1 := hc _ ((cutsK_mem row.length (Nat.le_refl _) _).2 (.inr (.inr ⟨i, hi, .inl rfl⟩)))
  have m2 := hc _ ((cutsK_mem row.length (Nat.le_refl _) _).2 (.inr (.inr ⟨i, hi, .inr rfl⟩)))
  rw [eg] at m1 m2
  have n1 := beg_lt (L := L) (m := m) (c := p.d) hd
  have n2 := beg_lt (L := L) (m := a) (c := p.d) hd
  have n3 := beg_lt (L := L) (m := m) (c := p.u) hd
  have n4 := beg_lt (L := L) (m := a) (c := p.u) hd
  constructor
  · rw [n1, n2]
    split
    · exact m1.symm
    · rw [m1]
  · have : (begK L dir m < p.u ↔ begK L dir a < p.u) := by
      rw [n3, n4]
      split
      · exact m2.symm
      · rw [m2]
    omega
theorem told_cuts {L : Int} {js : List Int} {dir h : Int} {l : List Sgn} {q : List Edc} {row : List Pst} (hV : lstE L js l q = 0) (hd : dirB dir = true) (H : RowL L js dir h l row) : 0 ∈ cutsK L dir row row.length ∧ L ∈ cutsK L dir row row.length ∧ ∀ c, c ∈ cutsK L dir row row.length → 0 ≤ c ∧ c ≤ L := by
  obtain ⟨hl, hL1, hL2⟩ := lst_line hV
  refine ⟨(cutsK_mem row.length (Nat.le_refl _) _).2 (.inl rfl), (cutsK_mem row.length (Nat.le_refl _) _).2 (.inr (.inl rfl)), fun c hc => ?_⟩
  rcases (cutsK_mem row.length (Nat.le_refl _) c).1 hc with rfl | rfl | ⟨i, hi, rfl | rfl⟩
  · omega
  · omega
  · have := row_in hV hd H i hi
    exact dst_in hd this.1.1 this.1.2
  · have := row_in hV hd H i hi
    exact dst_in hd this.2.1 this.2.2
theorem hldM_eq {L : Int} {js : List Int} {dir h t : Int} {l : List Sgn} {q : List Edc} {row : List Pst} (hV : lstE L js l q = 0) (hd : dirB dir = true) (ht : t ≠ 0) (H : RowL L js dir h l row) : hldM L dir t row = heldS L js l h dir t := by
  obtain ⟨hl, hL1, hL2⟩ := lst_line hV
  obtain ⟨c1, c2, c3⟩ := told_cuts hV hd H
  obtain ⟨hn1, hn2⟩ := sgn_nums (lst_sgns hV)
  unfold hldM heldS
  rw [held_cuts (L := L) (by omega) c1 c2 c3 (fun a m hc => told_const hV hd H a m hc)]
  exact strS_congr fun m h1 h2 => hld_ins hn2 ht (beg_bd (by omega) hL2 h1 h2).2 H
/-- The cuts of edicts. -/
def cutsW (L : Int) (q : List Edc) : Nat → List Int
  | 0 => [0, L]
  | k + 1 => cutsW L q k ++ [(ge q k).fr, (ge q k).tt]
theorem cutsW_len (L : Int) (q : List Edc) : ∀ k, (cutsW L q k).length = 2 + 2 * k
  | 0 => rfl
  | k + 1 => by rw [cutsW, List.length_append, cutsW_len L q k]; simp; omega
theorem cutsW_mem {L : Int} {q : List Edc} : ∀ n, n ≤ q.length → ∀ c, c ∈ cutsW L q n ↔ c = 0 ∨ c = L ∨ ∃ i, i < n ∧ (c = (ge q i).fr ∨ c = (ge q i).tt)
  | 0, _, c => by simp [cutsW]
  | n + 1, hn, c => by
    rw [cutsW, List.mem_append, cutsW_mem n (by omega) c]
    simp only [List.mem_cons, List.not_mem_nil, or_false]
    constructor
    · rintro ((h | h | ⟨i, hi, h⟩) | h)
      · exact .inl h
      · exact .inr (.inl h)
      · exact .inr (.inr ⟨i, by omega, h⟩)
      · exact .inr (.inr ⟨n, by omega, h⟩)
    · rintro (h | h | ⟨i, hi, h⟩)
      · exact .inl (.inl h)
      · exact .inl (.inr (.inl h))
      · by_cases e : i = n
        · rw [e] at h; exact .inr h
        · exact .inl (.inr (.inr ⟨i, by omega, h⟩))
theorem edc_in {L : Int} {js : List Int} {q : List Edc} (h : edcsB L js q = true) (j : Nat) (hj : j < q.length) : edcB L (ge q j) = true := by
  unfold edcsB at h
  simp only [Bool.and_eq_true, decide_eq_true_eq] at h
  have hA := h.1.2
  unfold allE at hA
  simp only [Bool.not_eq_true'] at hA
  simpa using (anyK_iff _).1 hA j hj
theorem edc_bd {L : Int} {x : Edc} (h : edcB L x = true) : 0 ≤ x.fr ∧ x.fr < x.tt ∧ x.tt ≤ L := by
  unfold edcB at h
  simp only [Bool.and_eq_true, decide_eq_true_eq] at h
  omega
theorem mustK_same {q : List Edc} {h t d m m' : Int} : ∀ n, n ≤ q.length → (∀ i, i < n → ((ge q i).fr ≤ m ↔ (ge q i).fr ≤ m') ∧ (m < (ge q i).tt ↔ m' < (ge q i).tt)) → mustK q h t d m n = mustK q h t d m' n
  | 0, _, _ => rfl
  | n + 1, hn, hh => by
    rw [mustK, mustK, mustK_same n (by omega) (fun i hi => hh i (by omega))]
    obtain ⟨h1, h2⟩ := hh n (by omega)
    have : edB (ge q n) h t d m = edB (ge q n) h t d m' := by
      unfold edB
      rw [show decide ((ge q n).fr ≤ m) = decide ((ge q n).fr ≤ m') from decide_eq_decide.2 h1, show decide (m < (ge q n).tt) = decide (m' < (ge q n).tt) from decide_eq_decide.2 h2]
    rw [this]
def wantS (L : Int) (q : List Edc) (h dir t : Int) : List Tri := strS L (fun m => mustV q h t dir m)
theorem want_const {L : Int} {q : List Edc} {h t d : Int} (a m : Int) (hc : ∀ c, c ∈ cutsW L q q.length → (a < c ↔ m < c)) : mustV q h t d m = mustV q h t d a := by
  unfold mustV
  rw [mustK_same q.length (Nat.le_refl _) (fun i hi => ?_)]
  have m1 := hc _ ((cutsW_mem q.length (Nat.le_refl _) _).2 (.inr (.inr ⟨i, hi, .inl rfl⟩)))
  have m2 := hc _ ((cutsW_mem q.length (Nat.le_refl _) _).2 (.inr (.inr ⟨i, hi, .inr rfl⟩)))
  constructor <;> omega
theorem want_cuts {L : Int} {js : List Int} {l : List Sgn} {q : List Edc} (hV : lstE L js l q = 0) : 0 ∈ cutsW L q q.length ∧ L ∈ cutsW L q q.length ∧ ∀ c, c ∈ cutsW L q q.length → 0 ≤ c ∧ c ≤ L := by
  obtain ⟨hl, hL1, hL2⟩ := lst_line hV
  refine ⟨(cutsW_mem q.length (Nat.le_refl _) _).2 (.inl rfl), (cutsW_mem q.length (Nat.le_refl _) _).2 (.inr (.inl rfl)), fun c hc => ?_⟩
  rcases (cutsW_mem q.length (Nat.le_refl _) c).1 hc with rfl | rfl | ⟨i, hi, rfl | rfl⟩
  · omega
  · omega
  · have := edc_bd (edc_in (lst_edcs hV) i hi); omega
  · have := edc_bd (edc_in (lst_edcs hV) i hi); omega
theorem wantM_eq {L : Int} {js : List Int} {l : List Sgn} {q : List Edc} {h dir t : Int} (hV : lstE L js l q = 0) : heldL (prtK (ascL (cutsW L q q.length)) (fun m => mustV q h t dir m) (ascL (cutsW L q q.length)).length) = wantS L q h dir t := by
  obtain ⟨hl, hL1, hL2⟩ := lst_line hV
  obtain ⟨c1, c2, c3⟩ := want_cuts hV
  exact held_cuts (L := L) (by omega) c1 c2 c3 (fun a m hc => want_const a m hc)
end Go.Proofs.YtjoffnbpaebgjaaGreat

namespace Go.Proofs.YtjoffnbpaebgjaaGreat
set_option linter.unusedVariables false
set_option linter.unusedSimpArgs false
open Go.RowKit

/-- Where an hour goes in a list, from place k down. -/
def plcH (h : Int) (out : List Int) : Nat → Nat
  | 0 => 0
  | k + 1 => if h < gi out k then plcH h out k else k + 1
theorem plcH_le (h : Int) (out : List Int) : ∀ k, plcH h out k ≤ k
  | 0 => Nat.le_refl _
  | k + 1 => by
    rw [plcH]; split
    · exact Nat.le_succ_of_le (plcH_le h out k)
    · exact Nat.le_refl _
theorem plcH_yes {h : Int} {out : List Int} {k : Nat} (e : h < gi out k) : plcH h out (k + 1) = plcH h out k := by rw [plcH, if_pos e]
theorem plcH_no {h : Int} {out : List Int} {k : Nat} (e : ¬ h < gi out k) : plcH h out (k + 1) = k + 1 := by rw [plcH, if_neg e]
/-- An hour into an ascending list, once, if it is not beyond all hours. -/
def putH (out : List Int) (h : Int) : List Int :=
  if 10000000 < h ∨ (0 < plcH h out out.length ∧ gi out (plcH h out out.length - 1) = h) then out
  else out.take (plcH h out out.length) ++ h :: out.drop (plcH h out out.length)
theorem plcH_spec {h : Int} {out : List Int} (hs : out.Pairwise (· < ·)) : ∀ k, k ≤ out.length → (∀ i, i < plcH h out k → gi out i ≤ h) ∧ (∀ i, plcH h out k ≤ i → i < k → h < gi out i)
  | 0, _ => ⟨fun i hi => absurd hi (Nat.not_lt_zero _), fun i _ hi => absurd hi (Nat.not_lt_zero _)⟩
  | k + 1, hk => by
    rw [plcH]; split
    next e =>
      have ih := plcH_spec (h := h) hs k (by omega)
      refine ⟨ih.1, fun i h1 h2 => ?_⟩
      by_cases ei : i = k
      · rw [ei]; exact e
      · exact ih.2 i h1 (by omega)
    next e =>
      refine ⟨fun i hi => ?_, fun i h1 h2 => by omega⟩
      by_cases ei : i = k
      · rw [ei]; omega
      · have := (List.pairwise_iff_getElem.1 hs) i k (by omega) (by omega) (by omega)
        rw [← gi_at _ (by omega), ← gi_at _ (by omega)] at this
        omega
theorem putH_asc {out : List Int} {h : Int} (hs : out.Pairwise (· < ·)) : (putH out h).Pairwise (· < ·) := by
  unfold putH
  split
  · exact hs
  next hn =>
    obtain ⟨h1, h2⟩ := plcH_spec (h := h) hs out.length (Nat.le_refl _)
    have hle := plcH_le h out out.length
    generalize plcH h out out.length = p at *
    have ht : ∀ y, y ∈ out.take p → y < h := fun y hy => by
      obtain ⟨i, hi, e⟩ := List.getElem_of_mem hy
      rw [List.length_take] at hi
      rw [List.getElem_take] at e
      have a1 := h1 i (by omega)
      rw [gi_at _ (by omega), e] at a1
      by_cases ei : i = p - 1
      · have : ¬ y = h := fun e2 => hn (.inr ⟨by omega, by rw [← ei, gi_at _ (by omega), e, e2]⟩)
        omega
      · have a2 := (List.pairwise_iff_getElem.1 hs) i (p - 1) (by omega) (by omega) (by omega)
        have a3 := h1 (p - 1) (by omega)
        rw [gi_at _ (by omega)] at a3
        omega
    have hd : ∀ y, y ∈ out.drop p → h < y := fun y hy => by
      obtain ⟨i, hi, e⟩ := List.getElem_of_mem hy
      rw [List.length_drop] at hi
      rw [List.getElem_drop] at e
      have := h2 (p + i) (by omega) (by omega)
      rw [gi_at _ (by omega), e] at this
      exact this
    refine List.pairwise_append.2 ⟨hs.sublist (List.take_sublist _ _), List.pairwise_cons.2 ⟨hd, hs.sublist (List.drop_sublist _ _)⟩, fun y hy z hz => ?_⟩
    rcases List.mem_cons.1 hz with rfl | hz
    · exact ht y hy
    · have := ht y hy
      have := hd z hz
      omega
theorem putH_mem {out : List Int} {h x : Int} : x ∈ putH out h ↔ x ∈ out ∨ (x = h ∧ h ≤ 10000000) := by
  unfold putH
  split
  next hn =>
    refine ⟨.inl, fun hx => ?_⟩
    rcases hx with hx | ⟨rfl, hx⟩
    · exact hx
    · rcases hn with hn | ⟨h1, h2⟩
      · omega
      · have hle := plcH_le x out out.length
        rw [← h2, gi_at _ (by omega)]
        exact List.getElem_mem _
  next hn =>
    rw [List.mem_append, List.mem_cons]
    have hs : x ∈ out ↔ x ∈ out.take (plcH h out out.length) ∨ x ∈ out.drop (plcH h out out.length) := by
      rw [← List.mem_append, List.take_append_drop]
    rw [hs]
    constructor
    · rintro (h1 | h1 | h1)
      · exact .inl (.inl h1)
      · exact .inr ⟨h1, by omega⟩
      · exact .inl (.inr h1)
    · rintro ((h1 | h1) | ⟨h1, -⟩)
      · exact .inl h1
      · exact .inr (.inr h1)
      · exact .inr (.inl h1)
theorem putH_len (out : List Int) (h : Int) : (putH out h).length ≤ out.length + 1 := by
  have hle := plcH_le h out out.length
  unfold putH
  split
  · omega
  · simp; omega
theorem fold_asc : ∀ (hs : List Int) (out : List Int), out.Pairwise (· < ·) → (hs.foldl putH out).Pairwise (· < ·)
  | [], out, h => h
  | x :: hs, out, h => fold_asc hs _ (putH_asc h)
theorem fold_mem {x : Int} : ∀ (hs : List Int) (out : List Int), x ∈ hs.foldl putH out ↔ x ∈ out ∨ (x ∈ hs ∧ x ≤ 10000000)
  | [], out => by simp
  | y :: hs, out => by
    rw [List.foldl_cons, fold_mem hs, putH_mem, List.mem_cons]
    constructor
    · rintro ((h | ⟨rfl, h⟩) | ⟨h1, h2⟩)
      · exact .inl h
      · exact .inr ⟨.inl rfl, h⟩
      · exact .inr ⟨.inr h1, h2⟩
    · rintro (h | ⟨rfl | h1, h2⟩)
      · exact .inl (.inl h)
      · exact .inl (.inr ⟨rfl, h2⟩)
      · exact .inr ⟨h1, h2⟩
theorem fold_len : ∀ (hs : List Int) (out : List Int), (hs.foldl putH out).length ≤ out.length + hs.length
  | [], out => by simp
  | y :: hs, out => by
    have h1 := fold_len hs (putH out y)
    have h2 := putH_len out y
    rw [List.foldl_cons, List.length_cons]
    omega
/-- Ascending lists of the same numbers are one. -/
theorem asc_unique : ∀ {s t : List Int}, s.Pairwise (· < ·) → t.Pairwise (· < ·) → (∀ x, x ∈ s ↔ x ∈ t) → s = t
  | [], [], _, _, _ => rfl
  | [], y :: t, _, _, h => by have := (h y).2 (by simp); simp at this
  | x :: s, [], _, _, h => by have := (h x).1 (by simp); simp at this
  | x :: s, y :: t, hs, ht, h => by
    have h1 := List.pairwise_cons.1 hs
    have h2 := List.pairwise_cons.1 ht
    have hxy : x = y := by
      have a := (h x).1 (by simp)
      have b := (h y).2 (by simp)
      rw [List.mem_cons] at a b
      rcases a with a | a
      · exact a
      · rcases b with b | b
        · exact b.symm
        · have := h2.1 x a
          have := h1.1 y b
          omega
    subst hxy
    rw [asc_unique h1.2 h2.2 fun z => ?_]
    constructor
    · intro hz
      have := (h z).1 (by simp [hz])
      rw [List.mem_cons] at this
      rcases this with rfl | this
      · have := h1.1 z hz; omega
      · exact this
    · intro hz
      have := (h z).2 (by simp [hz])
      rw [List.mem_cons] at this
      rcases this with rfl | this
      · have := h2.1 z hz; omega
      · exact this
/-- The hours of covers, of signs, of edicts, in the order in which they come. -/
def hrC (cv : List Spn) : Nat → List Int
  | 0 => []
  | k + 1 => hrC cv k ++ [(gp cv k).1, (gp cv k).2]
def hrS (l : List Sgn) : Nat → List Int
  | 0 => []
  | k + 1 => (hrS l k ++ [(gs l k).up, (gs l k).dn]) ++ hrC (gs l k).cv (gs l k).cv.length
def hrE (q : List Edc) : Nat → List Int
  | 0 => []
  | k + 1 => hrE q k ++ [(ge q k).st, (ge q k).en]
def hrs (l : List Sgn) (q : List Edc) : List Int := hrS l l.length ++ hrE q q.length
/-- The moments. -/
def momL (l : List Sgn) (q : List Edc) : List Int := (hrs l q).foldl putH []
theorem hrC_len (cv : List Spn) : ∀ k, (hrC cv k).length = 2 * k
  | 0 => rfl
  | k + 1 => by rw [hrC, List.length_append, hrC_len cv k]; simp; omega
theorem hrS_len {l : List Sgn} (h : ∀ i, i < l.length → (gs l i).cv.length ≤ 10) : ∀ k, k ≤ l.length → (hrS l k).length ≤ 22 * k
  | 0, _ => Nat.le_refl _
  | k + 1, hk => by
    have h1 := hrS_len h k (by omega)
    have h2 := h k (by omega)
    rw [hrS, List.length_append, List.length_append, hrC_len]
    simp
    omega
theorem hrE_len (q : List Edc) : ∀ k, (hrE q k).length = 2 * k
  | 0 => rfl
  | k + 1 => by rw [hrE, List.length_append, hrE_len q k]; simp; omega
theorem hrC_mem {cv : List Spn} {x : Int} : ∀ {k}, x ∈ hrC cv k ↔ ∃ j, j < k ∧ (x = (gp cv j).1 ∨ x = (gp cv j).2)
  | 0 => by simp [hrC]
  | k + 1 => by
    rw [hrC, List.mem_append, hrC_mem]
    simp only [List.mem_cons, List.not_mem_nil, or_false]
    constructor
    · rintro (⟨j, hj, h⟩ | h)
      · exact ⟨j, by omega, h⟩
      · exact ⟨k, by omega, h⟩
    · rintro ⟨j, hj, h⟩
      by_cases e : j = k
      · subst e; exact .inr h
      · exact .inl ⟨j, by omega, h⟩
theorem hrS_mem {l : List Sgn} {x : Int} : ∀ {k}, x ∈ hrS l k ↔ ∃ i, i < k ∧ (x = (gs l i).up ∨ x = (gs l i).dn ∨ ∃ j, j < (gs l i).cv.length ∧ (x = (gp (gs l i).cv j).1 ∨ x = (gp (gs l i).cv j).2))
  | 0 => by simp [hrS]
  | k + 1 => by
    rw [hrS, List.mem_append, List.mem_append, hrS_mem, hrC_mem]
    simp only [List.mem_cons, List.not_mem_nil, or_false]
    constructor
    · rintro ((⟨i, hi, h⟩ | h) | h)
      · exact ⟨i, by omega, h⟩
      · exact ⟨k, by omega, h.elim .inl fun h => .inr (.inl h)⟩
      · exact ⟨k, by omega, .inr (.inr h)⟩
    · rintro ⟨i, hi, h⟩
      by_cases e : i = k
      · subst e
        rcases h with h | h | h
        · exact .inl (.inr (.inl h))
        · exact .inl (.inr (.inr h))
        · exact .inr h
      · exact .inl (.inl ⟨i, by omega, h⟩)
theorem hrE_mem {q : List Edc} {x : Int} : ∀ {k}, x ∈ hrE q k ↔ ∃ i, i < k ∧ (x = (ge q i).st ∨ x = (ge q i).en)
  | 0 => by simp [hrE]
  | k + 1 => by
    rw [hrE, List.mem_append, hrE_mem]
    simp only [List.mem_cons, List.not_mem_nil, or_false]
    constructor
    · rintro (⟨j, hj, h⟩ | h)
      · exact ⟨j, by omega, h⟩
      · exact ⟨k, by omega, h⟩
    · rintro ⟨j, hj, h⟩
      by_cases e : j = k
      · subst e; exact .inr h
      · exact .inl ⟨j, by omega, h⟩
theorem mom_asc (l : List Sgn) (q : List Edc) : (momL l q).Pairwise (· < ·) := fold_asc _ _ List.Pairwise.nil
theorem mom_mem {l : List Sgn} {q : List Edc} {x : Int} : x ∈ momL l q ↔ x ∈ hrs l q ∧ x ≤ 10000000 := by
  unfold momL
  rw [fold_mem]
  simp
end Go.Proofs.YtjoffnbpaebgjaaGreat

namespace Go.Proofs.YtjoffnbpaebgjaaGreat
set_option linter.unusedVariables false
set_option linter.unusedSimpArgs false
open Go.RowKit Go.Maps Go.Sort Go.Shelf

theorem sortsI (m : Nat) : AnyZI.SortsIn Tryz.prog Tryz.laysSortedI_ren Fence.wide m :=
  ⟨fun blk off cap ss W hH hblk hsz => callsIn_wide.2 (AnyM.slices_Sort_int Tryz.laysSortI blk off cap ss W hH hblk hsz),
   fun p cap W => callsIn_wide.2 (AnyM.slices_Sort_int_none Tryz.laysSortI p cap W)⟩
theorem keysI_r (mb : Option Nat) (w : World) : Calls Tryz.prog 55 #[.map mb] w fun e w' => e = .returned (.func (.func 94) #[] #[.pointer (some ⟨w.heap.size, 0, none⟩)]) ∧ w' = w.alloc (.cells #[.map mb] 105) :=
  (callsIn_wide (n := 6)).1 (AnyZI.keys_in Tryz.laysKeysI Fence.wide 6 trivial rfl mb w)
set_option maxHeartbeats 1000000 in
/-- The keys of a map of hours, in order. -/
theorem sortedKeys_r (Bm b n : Nat) (S : List Int) (w : World) (h : SetM Tryz.prog 3 4 w b n S) (hn : n ≤ 100000) (hBm : Bm < w.heap.size) (hc : w.cell? ⟨Bm, 0, none⟩ = some (.map (some b))) :
    Calls Tryz.prog 54 #[.func (.func 94) #[] #[.pointer (some ⟨Bm, 0, none⟩)]] w fun e w' => ∃ (a : Option Addr) (c : Nat) (Z : List Int), e = .returned (.slice a Z.length c) ∧
      w'.ownsRow w.heap.size 3 1 (.slice a Z.length c) Z.length (clI Z) ∧ Z.Pairwise (· < ·) ∧ (∀ x, x ∈ Z ↔ x ∈ S) ∧ Below w.heap.size w w' := by
  obtain ⟨D, h1, h2⟩ := h
  have hk : Tryz.prog.underlying 3 = some (.int .i64) := Tryz.underlying3
  obtain ⟨k1, k2, k3⟩ := keys_set h1 h2 hk
  have hseq : SeqGives Fence.wide 3 Tryz.prog 94 #[.pointer (some ⟨Bm, 0, none⟩)] encZ (fun ss => ss.Perm (intKeys D)) (Maps.size D) w :=
    AnyZI.keys_gives (ρ := Tryz.laysKeysI_ren) { Tryz.laysKeysI with } Fence.wide _ trivial rfl (by omega) Bm b n D _ hBm hc h1
  have hmax : Maps.size D ≤ maxLen := by unfold maxLen; omega
  have hbytes : Maps.size D * 8 ≤ 140737488355328 := by omega
  have cS := AnyZI.sorted_in Tryz.laysSortedI Fence.wide 6 trivial trivial trivial trivial rfl (by omega) (sortsI _) (enters_of Tryz.func93 (by kernel_rfl) rfl) 94 #[.pointer (some ⟨Bm, 0, none⟩)] trivial (enters_of Tryz.func94 (by kernel_rfl) rfl) _ _ hmax hbytes w hseq
  change CallsIn _ _ Tryz.prog 54 _ _ _ at cS
  refine ((callsIn_wide (n := 6)).1 cS).mono ?_
  rintro e w' ⟨v, ss, rfl, hp, hown, hnil, hb⟩
  have hsl : (ss.mergeSort fun x y => decide (x ≤ y)).length = ss.length := List.length_mergeSort ss
  have hpm : (ss.mergeSort fun x y => decide (x ≤ y)).Perm (intKeys D) := (List.mergeSort_perm ss _).trans hp
  obtain ⟨a, c, rfl⟩ : ∃ a c, v = .slice a ss.length c := by
    rcases hown.2 with ⟨h8, h9⟩ | ⟨g, cap, cur, h8, _⟩
    · exact ⟨none, 0, by rw [h8, h9]⟩
    · exact ⟨_, _, h8⟩
  have hpw := srt_pw ss
  refine ⟨a, c, ss.mergeSort (fun x y => decide (x ≤ y)), by rw [hsl], by rw [hsl]; exact hown, ?_, fun x => ?_, hb⟩
  · have hnd : (ss.mergeSort fun x y => decide (x ≤ y)).Nodup := hpm.nodup_iff.2 k1
    have : (srt ss).Pairwise (fun x y => x ≤ y ∧ x ≠ y) := hpw.and hnd
    exact this.imp fun h => by omega
  · rw [hpm.mem_iff, k2]
end Go.Proofs.YtjoffnbpaebgjaaGreat

namespace Go.Proofs.YtjoffnbpaebgjaaGreat
set_option linter.unusedVariables false
set_option linter.unusedSimpArgs false
open Go.RowKit

/-- One sign more in a row. -/
def stepI (L dir h : Int) (r : List Sgn) (x : Sgn) : List Sgn :=
  if selB dir h x = true then r.take (plcS L dir x r r.length) ++ x :: r.drop (plcS L dir x r r.length) else r
theorem insR_step (L dir h : Int) (l : List Sgn) (k : Nat) : insR L dir h l (k + 1) = stepI L dir h (insR L dir h l k) (gs l k) := rfl
theorem insR_congr {L dir h : Int} {l l' : List Sgn} : ∀ k, (∀ j, j < k → gs l j = gs l' j) → insR L dir h l k = insR L dir h l' k
  | 0, _ => rfl
  | k + 1, e => by
    rw [insR_step, insR_step, insR_congr k (fun j hj => e j (by omega)), e k (by omega)]
def insA (L dir h : Int) (l : List Sgn) : List Sgn := insR L dir h l l.length
theorem gs_left {l t : List Sgn} {j : Nat} (h : j < l.length) : gs (l ++ t) j = gs l j := by
  rw [gs_at _ (by simp; omega), gs_at _ h, List.getElem_append_left h]
theorem gs_snoc (l : List Sgn) (x : Sgn) : gs (l ++ [x]) l.length = x := by
  rw [gs_at _ (by simp)]
  simp
theorem insA_snoc (L dir h : Int) (l : List Sgn) (x : Sgn) : insA L dir h (l ++ [x]) = stepI L dir h (insA L dir h l) x := by
  unfold insA
  rw [List.length_append, List.length_singleton, insR_step, gs_snoc, insR_congr l.length fun j hj => gs_left hj]
theorem selR_congr {dir h : Int} {l l' : List Sgn} : ∀ k, (∀ j, j < k → gs l j = gs l' j) → selR dir h l k = selR dir h l' k
  | 0, _ => rfl
  | k + 1, e => by rw [selR, selR, selR_congr k (fun j hj => e j (by omega)), e k (by omega)]
theorem take_snoc (l : List Sgn) {k : Nat} (hk : k < l.length) : l.take (k + 1) = l.take k ++ [gs l k] := by
  rw [List.take_succ_eq_append_getElem hk, gs_at _ hk]
theorem selR_take (dir h : Int) (l : List Sgn) : ∀ k, k ≤ l.length → selR dir h l k = (l.take k).filter (fun x => selB dir h x)
  | 0, _ => rfl
  | k + 1, hk => by
    rw [selR, selR_take dir h l k (by omega), take_snoc l (by omega), List.filter_append]
    by_cases hx : selB dir h (gs l k) = true
    · rw [if_pos hx]; simp [hx]
    · rw [if_neg hx]; simp [hx]
theorem selR_filter (dir h : Int) (l : List Sgn) : selR dir h l l.length = l.filter (fun x => selB dir h x) := by
  rw [selR_take dir h l l.length (Nat.le_refl _), List.take_length]
theorem insA_perm (L dir h : Int) (l : List Sgn) : (insA L dir h l).Perm (l.filter (fun x => selB dir h x)) := by
  rw [← selR_filter]
  exact insR_perm L dir h l l.length
theorem sel_spk {dir h : Int} {x : Sgn} (hx : spkB x h = false) : selB dir h x = false := by unfold selB; rw [hx, Bool.and_false]
/-- Valid signs, as a list. -/
theorem sgns_iff (L : Int) (js : List Int) (l : List Sgn) : sgnsB L js l = true ↔ lineB L js = true ∧ l.length ≤ 100 ∧ (∀ x, x ∈ l → (btw x.n 1 1000000000 = true ∧ sgnB L x = true)) ∧ (l.map (·.n)).Nodup := by
  have hat : ∀ x, x ∈ l → ∃ k, k < l.length ∧ gs l k = x := fun x hx => by
    obtain ⟨k, hk, e⟩ := List.getElem_of_mem hx
    exact ⟨k, hk, by rw [gs_at _ hk, e]⟩
  constructor
  · intro h
    refine ⟨sgns_line h, ?_, fun x hx => ?_, ?_⟩
    · by_cases h9 : 100 < l.length
      · rw [s_bad9 h9] at h; cases h
      · omega
    · obtain ⟨k, hk, rfl⟩ := hat x hx
      constructor
      · cases e : btw (gs l k).n 1 1000000000 with
        | true => rfl
        | false => rw [s_bad1 hk e] at h; cases h
      · cases e : sgnB L (gs l k) with
        | true => rfl
        | false => rw [s_bad2 hk e] at h; cases h
    · rw [List.nodup_iff_pairwise_ne, List.pairwise_iff_getElem]
      intro i j hi hj hij e
      rw [List.getElem_map, List.getElem_map] at e
      have hi : i < l.length := by simpa using hi
      have hj : j < l.length := by simpa using hj
      rw [← gs_at _ hi, ← gs_at _ hj] at e
      rw [s_bad3 hj hij e] at h; cases h
  · rintro ⟨h0, h9, h, hn⟩
    refine s_end h0 h9 fun k hk => ?_
    have hm : gs l k ∈ l := by rw [gs_at _ hk]; exact List.getElem_mem hk
    refine ⟨(h _ hm).1, (h _ hm).2, fun j hj e => ?_⟩
    rw [List.nodup_iff_pairwise_ne, List.pairwise_iff_getElem] at hn
    refine hn j k (by simpa using (by omega : j < l.length)) (by simpa using hk) hj ?_
    rw [List.getElem_map, List.getElem_map, ← gs_at _ (by omega : j < l.length), ← gs_at _ hk]
    exact e
theorem lst_iff (L : Int) (js : List Int) (l : List Sgn) : lstE L js l [] = 0 ↔ sgnsB L js l = true := by
  constructor
  · intro h; exact lst_sgns h
  · intro h
    unfold lstE
    rw [sgns_line h, h, edcs_nil, sgns_line h]
    rfl
theorem sgns_sub {L : Int} {js : List Int} {l t : List Sgn} (h : sgnsB L js l = true) (hs : t.Sublist l) : sgnsB L js t = true := by
  rw [sgns_iff] at h ⊢
  exact ⟨h.1, Nat.le_trans hs.length_le h.2.1, fun x hx => h.2.2.1 x (hs.mem hx), h.2.2.2.sublist (hs.map _)⟩
/-- The signs that speak, of the first k. -/
def spkL (h : Int) (l : List Sgn) : Nat → List Sgn
  | 0 => []
  | k + 1 => if spkB (gs l k) h = true then spkL h l k ++ [gs l k] else spkL h l k
theorem spk_ins (L dir h : Int) (l : List Sgn) : ∀ k, insA L dir h (spkL h l k) = insR L dir h l k
  | 0 => rfl
  | k + 1 => by
    have ih := spk_ins L dir h l k
    rw [spkL, insR_step, ← ih]
    by_cases hx : spkB (gs l k) h = true
    · rw [if_pos hx, insA_snoc]
    · rw [if_neg hx, stepI, sel_spk (by simpa using hx), if_neg (by decide)]
theorem spk_sub (h : Int) (l : List Sgn) : ∀ k, k ≤ l.length → (spkL h l k).Sublist (l.take k)
  | 0, _ => List.Sublist.slnil
  | k + 1, hk => by
    have ih := spk_sub h l k (by omega)
    rw [spkL, take_snoc l (by omega)]
    split
    · exact ih.append (List.Sublist.refl _)
    · exact ih.trans (List.sublist_append_left _ _)
/-- A sign that a cover silences over all its hours. -/
def cvr (x : Sgn) : Sgn := { x with cv := [(x.up, x.dn)] }
theorem cvr_spk (x : Sgn) (h : Int) : spkB (cvr x) h = false := by
  unfold spkB cvr
  simp only [List.length_singleton, anyK, covH, gp, List.getD_cons_zero, Bool.or_false]
  by_cases h1 : x.up ≤ h <;> by_cases h2 : h < x.dn <;> simp [h1, h2]
/-- All of the first k but number z; and all, number z covered. -/
def othL (z : Nat) (l : List Sgn) : Nat → List Sgn
  | 0 => []
  | k + 1 => if k = z then othL z l k else othL z l k ++ [gs l k]
def covL (z : Nat) (l : List Sgn) : Nat → List Sgn
  | 0 => []
  | k + 1 => covL z l k ++ [if k = z then cvr (gs l k) else gs l k]
theorem oth_cov (L dir h : Int) (z : Nat) (l : List Sgn) : ∀ k, insA L dir h (othL z l k) = insA L dir h (covL z l k)
  | 0 => rfl
  | k + 1 => by
    have ih := oth_cov L dir h z l k
    rw [othL, covL, insA_snoc, ← ih]
    by_cases hz : k = z
    · rw [if_pos hz, if_pos hz, stepI, sel_spk (cvr_spk _ _), if_neg (by decide)]
    · rw [if_neg hz, if_neg hz, insA_snoc]
theorem oth_sub (z : Nat) (l : List Sgn) : ∀ k, k ≤ l.length → (othL z l k).Sublist (l.take k)
  | 0, _ => List.Sublist.slnil
  | k + 1, hk => by
    have ih := oth_sub z l k (by omega)
    rw [othL, take_snoc l (by omega)]
    split
    · exact ih.trans (List.sublist_append_left _ _)
    · exact ih.append (List.Sublist.refl _)
theorem cov_n (z : Nat) (l : List Sgn) : ∀ k, k ≤ l.length → (covL z l k).map (·.n) = (l.take k).map (·.n)
  | 0, _ => rfl
  | k + 1, hk => by
    have ih := cov_n z l k (by omega)
    rw [covL, take_snoc l (by omega), List.map_append, List.map_append, ih]
    congr 1
    simp only [List.map_cons, List.map_nil]
    split <;> rfl
theorem cov_mem {z : Nat} {l : List Sgn} {x : Sgn} : ∀ {k}, k ≤ l.length → x ∈ covL z l k → ∃ y, y ∈ l ∧ (x = y ∨ x = cvr y)
  | 0, _, hx => by simp [covL] at hx
  | k + 1, hk, hx => by
    rw [covL, List.mem_append, List.mem_singleton] at hx
    rcases hx with hx | hx
    · exact cov_mem (by omega) hx
    · refine ⟨gs l k, by rw [gs_at _ (by omega)]; exact List.getElem_mem _, ?_⟩
      split at hx
      · exact .inr hx
      · exact .inl hx
theorem cvr_good {L : Int} {x : Sgn} (h : sgnB L x = true) : sgnB L (cvr x) = true := by
  unfold sgnB at *
  simp only [Bool.and_eq_true] at h ⊢
  refine ⟨⟨h.1.1, rfl⟩, ?_⟩
  have ht := h.1.1.2
  unfold covB cvr
  simp only [List.length_singleton, anyK, gp, List.getD_cons_zero, Bool.or_false]
  rw [ht]; rfl
theorem cov_good {L : Int} {js : List Int} {z : Nat} {l : List Sgn} (h : sgnsB L js l = true) : sgnsB L js (covL z l l.length) = true := by
  rw [sgns_iff] at h ⊢
  have hn := cov_n z l l.length (Nat.le_refl _)
  rw [List.take_length] at hn
  refine ⟨h.1, ?_, fun x hx => ?_, by rw [hn]; exact h.2.2.2⟩
  · have := congrArg List.length hn
    simp only [List.length_map] at this
    omega
  · obtain ⟨y, hy, e | e⟩ := cov_mem (Nat.le_refl _) hx
    · rw [e]; exact h.2.2.1 y hy
    · rw [e]; exact ⟨(h.2.2.1 y hy).1, cvr_good (h.2.2.1 y hy).2⟩
/-- All but plates of the first k; and these but warnings and repeats. -/
def allL (l : List Sgn) : Nat → List Sgn
  | 0 => []
  | k + 1 => if (gs l k).k = 7 then allL l k else allL l k ++ [gs l k]
def keepB (x : Sgn) : Bool := !(x.k == 8) && !(x.k == 6)
def somL (l : List Sgn) : Nat → List Sgn
  | 0 => []
  | k + 1 => if (gs l k).k = 7 then somL l k else if (gs l k).k = 8 then somL l k else if (gs l k).k = 6 then somL l k else somL l k ++ [gs l k]
theorem som_filter (l : List Sgn) : ∀ k, somL l k = (allL l k).filter keepB
  | 0 => rfl
  | k + 1 => by
    have ih := som_filter l k
    rw [somL, allL]
    split
    · exact ih
    · rw [List.filter_append, ← ih]
      split
      next h => simp [keepB, h]
      next h8 =>
        split
        next h => simp [keepB, h]
        next h6 =>
          have : keepB (gs l k) = true := by unfold keepB; simp [h8, h6]
          rw [List.filter_cons_of_pos this]; rfl
theorem all_sub (l : List Sgn) : ∀ k, k ≤ l.length → (allL l k).Sublist (l.take k)
  | 0, _ => List.Sublist.slnil
  | k + 1, hk => by
    have ih := all_sub l k (by omega)
    rw [allL, take_snoc l (by omega)]
    split
    · exact ih.trans (List.sublist_append_left _ _)
    · exact ih.append (List.Sublist.refl _)
theorem all_kind {l : List Sgn} {x : Sgn} : ∀ {k}, x ∈ allL l k → x.k ≠ 7
  | 0, hx => by simp [allL] at hx
  | k + 1, hx => by
    rw [allL] at hx
    split at hx
    · exact all_kind hx
    next h7 =>
      rw [List.mem_append, List.mem_singleton] at hx
      rcases hx with hx | hx
      · exact all_kind hx
      · rw [hx]; exact h7
theorem insA_sorted {L dir h : Int} {l : List Sgn} (hn : (l.map (·.n)).Nodup) : (insA L dir h l).Pairwise (ahS L dir) := by
  refine insR_sorted (fun i j hij hj e => ?_) _ (Nat.le_refl _)
  rw [List.nodup_iff_pairwise_ne, List.pairwise_iff_getElem] at hn
  refine hn i j (by simpa using (by omega : i < l.length)) (by simpa using hj) hij ?_
  rw [List.getElem_map, List.getElem_map, ← gs_at _ (by omega : i < l.length), ← gs_at _ hj]
  exact e
theorem insA_filter {L dir h : Int} {l : List Sgn} (p : Sgn → Bool) (hn : (l.map (·.n)).Nodup) : insA L dir h (l.filter p) = (insA L dir h l).filter p := by
  refine ord_unique (insA_sorted (hn.sublist (List.filter_sublist.map _))) ((insA_sorted hn).sublist List.filter_sublist) ?_
  refine (insA_perm L dir h _).trans ?_
  refine List.Perm.trans ?_ ((insA_perm L dir h l).filter p).symm
  rw [List.filter_filter, List.filter_filter]
  refine List.Perm.of_eq (List.filter_congr fun x _ => Bool.and_comm _ _)
theorem keep_top {x : Sgn} (t : Int) (h : keepB x = false) : endB x.k t = false ∧ topK x.k = 0 := by
  unfold keepB at h
  have : x.k = 8 ∨ x.k = 6 := by
    by_cases h8 : x.k = 8
    · exact .inl h8
    · by_cases h6 : x.k = 6
      · exact .inr h6
      · simp [h8, h6] at h
  rcases this with e | e <;> rw [e] <;> exact ⟨rfl, rfl⟩
theorem plt_no {L dir k : Int} {s : Sgn} {r : List Sgn} (h : ∀ x, x ∈ r → x.k ≠ 7) : pltB L dir k s r.head? = false := by
  cases r with
  | nil => rfl
  | cons y r =>
    have := h y (by simp)
    simp [pltB, this]
theorem hS_far {L : Int} {js : List Int} {dir t k : Int} : ∀ (r : List Sgn) (v : Int), (∀ x, x ∈ r → k < dstK L dir x.c) → hS L js dir t k r v = v
  | [], _, _ => rfl
  | x :: r, v, h => by rw [hS, if_pos (h x (by simp))]
theorem hS_keep {L : Int} {js : List Int} {dir t k : Int} (ht : t ≠ 0) : ∀ (r : List Sgn) (v : Int), (∀ x, x ∈ r → x.k ≠ 7) → r.Pairwise (ahS L dir) → hS L js dir t k (r.filter keepB) v = hS L js dir t k r v
  | [], _, _, _ => rfl
  | x :: r, v, h7, hp => by
    have hp2 := List.pairwise_cons.1 hp
    have ih := fun v => hS_keep (js := js) (k := k) ht r v (fun y hy => h7 y (by simp [hy])) hp2.2
    have hd : ∀ y, y ∈ r → dstK L dir x.c ≤ dstK L dir y.c := fun y hy => by
      have := hp2.1 y hy
      unfold ahS at this
      omega
    by_cases hk : k < dstK L dir x.c
    · rw [hS, if_pos hk]
      refine hS_far _ _ fun y hy => ?_
      have hy := (List.mem_filter.1 hy).1
      rw [List.mem_cons] at hy
      rcases hy with rfl | hy
      · exact hk
      · have := hd y hy; omega
    · by_cases hx : keepB x = true
      · rw [List.filter_cons_of_pos hx, hS, hS, if_neg hk, if_neg hk, ih]
        congr 1
        unfold stpS shutB
        rw [plt_no (r := r) (fun y hy => h7 y (List.mem_cons_of_mem _ hy)), plt_no (r := r.filter keepB) (fun y hy => h7 y (List.mem_cons_of_mem _ (List.mem_filter.1 hy).1))]
      · have hx : keepB x = false := by simpa using hx
        obtain ⟨h1, h2⟩ := keep_top t hx
        rw [List.filter_cons_of_neg (by rw [hx]; decide), ih, hS, if_neg hk]
        congr 1
        unfold stpS
        rw [h1, h2, if_neg (by decide), if_neg (Ne.symm ht)]
theorem hld_som {L : Int} {js : List Int} {l : List Sgn} {h dir t m : Int} (ht : t ≠ 0) (hs : sgnsB L js l = true) : hldV L js (somL l l.length) h dir t m = hldV L js (allL l l.length) h dir t m := by
  have hn := ((sgns_iff L js l).1 hs).2.2.2
  have hsub := all_sub l l.length (Nat.le_refl _)
  rw [List.take_length] at hsub
  have hn2 : ((allL l l.length).map (·.n)).Nodup := hn.sublist (hsub.map _)
  show hS L js dir t (begK L dir m) (insA L dir h (somL l l.length)) 0 = hS L js dir t (begK L dir m) (insA L dir h (allL l l.length)) 0
  rw [som_filter, insA_filter keepB hn2]
  refine hS_keep ht _ _ (fun x hx => ?_) (insA_sorted hn2)
  have := (insA_perm L dir h (allL l l.length)).mem_iff.1 hx
  exact all_kind (List.mem_filter.1 this).1
theorem hld_spk (L : Int) (js : List Int) (l : List Sgn) (h dir t m : Int) : hldV L js (spkL h l l.length) h dir t m = hldV L js l h dir t m := by
  show hS L js dir t (begK L dir m) (insA L dir h (spkL h l l.length)) 0 = _
  rw [spk_ins]; rfl
theorem hld_oth (L : Int) (js : List Int) (l : List Sgn) (z : Nat) (h dir t m : Int) : hldV L js (covL z l l.length) h dir t m = hldV L js (othL z l l.length) h dir t m := by
  show hS L js dir t (begK L dir m) (insA L dir h (covL z l l.length)) 0 = hS L js dir t (begK L dir m) (insA L dir h (othL z l l.length)) 0
  rw [oth_cov]
theorem spk_good {L : Int} {js : List Int} {l : List Sgn} (h : Int) (hs : sgnsB L js l = true) : sgnsB L js (spkL h l l.length) = true := sgns_sub hs (by have := spk_sub h l l.length (Nat.le_refl _); rwa [List.take_length] at this)
theorem oth_good {L : Int} {js : List Int} {l : List Sgn} (z : Nat) (hs : sgnsB L js l = true) : sgnsB L js (othL z l l.length) = true := sgns_sub hs (by have := oth_sub z l l.length (Nat.le_refl _); rwa [List.take_length] at this)
theorem all_good {L : Int} {js : List Int} {l : List Sgn} (hs : sgnsB L js l = true) : sgnsB L js (allL l l.length) = true := sgns_sub hs (by have := all_sub l l.length (Nat.le_refl _); rwa [List.take_length] at this)
theorem som_good {L : Int} {js : List Int} {l : List Sgn} (hs : sgnsB L js l = true) : sgnsB L js (somL l l.length) = true := by
  rw [som_filter]
  exact sgns_sub (all_good hs) List.filter_sublist
end Go.Proofs.YtjoffnbpaebgjaaGreat
