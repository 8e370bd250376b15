/-
  Between the cuts of a course nothing changes: what holds, and what must hold, as stretches. By an AI agent.; The laws' comparison of lists that are the same. By an AI agent.; wanted and Wanted; Held at any arguments. By an AI agent.; Lists of signs made of others: what speaks, what is covered, what plays no part. By an AI agent.; Rows of one's own side by side: append of one element to one of them leaves the others. By an AI agent.; Rows of signs as values: cells, append; Holds at such a row. By an AI agent.
-/
import Derived.Test.YtlpdjinhkmgbgaaGreatDoorMgRuleCW3
import Derived.Test.YtlpdjinhkmgbgaaGreatDoorMgRuleCW5
import Derived.Test.YtlpdjinhkmgbgaaGreatDoorMgRuleCW6
import Derived.Test.YtlpdjinhkmgbgaaGreatDoorMgRuleCW7
import Derived.BigQuiet
import Derived.BigRegion
import Derived.Deep.RegionHeld3
import Derived.Deep.AppendLies
import Derived.Below

namespace Go.Proofs.YtlpdjinhkmgbgaaGreatDoor
set_option linter.unusedVariables false
set_option linter.unusedSimpArgs false
open Go.RowKit

theorem gi_mem {z : List Int} {k : Nat} (h : k < z.length) : gi z k ∈ z := by rw [gi_at z h]; exact List.getElem_mem h
theorem asc_lt (cuts : List Int) {i j : Nat} (hij : i < j) (hj : j < (ascL cuts).length) : gi (ascL cuts) i < gi (ascL cuts) j := by
  rw [gi_at _ (by omega), gi_at _ hj]
  exact (List.pairwise_iff_getElem.1 (asc_pw cuts)) i j (by omega) hj hij
theorem asc_ends {cuts : List Int} {A B : Int} (hA : A ∈ cuts) (hB : B ∈ cuts) (h : ∀ c, c ∈ cuts → A ≤ c ∧ c ≤ B) : gi (ascL cuts) 0 = A ∧ gi (ascL cuts) ((ascL cuts).length - 1) = B ∧ 0 < (ascL cuts).length := by
  have hp : 0 < (ascL cuts).length := asc_pos (by rintro rfl; cases hA)
  have hm : ∀ k, k < (ascL cuts).length → A ≤ gi (ascL cuts) k ∧ gi (ascL cuts) k ≤ B := fun k hk => h _ ((asc_iff cuts _).1 (gi_mem hk))
  obtain ⟨i, hi, ei⟩ := List.getElem_of_mem ((asc_iff cuts A).2 hA)
  obtain ⟨j, hj, ej⟩ := List.getElem_of_mem ((asc_iff cuts B).2 hB)
  rw [← gi_at _ hi] at ei
  rw [← gi_at _ hj] at ej
  refine ⟨?_, ?_, hp⟩
  · by_cases e : i = 0
    · rw [← ei, e]
    · have := asc_lt cuts (i := 0) (j := i) (by omega) hi
      have := (hm 0 hp).1
      omega
  · by_cases e : j = (ascL cuts).length - 1
    · rw [← ej, e]
    · have := asc_lt cuts (i := j) (j := (ascL cuts).length - 1) (by omega) (by omega)
      have := (hm ((ascL cuts).length - 1) (by omega)).2
      omega
/-- A function that hangs on how a place lies to the cuts alone. -/
theorem asc_const {V : Type} {cuts : List Int} {f : Int → V} (h : ∀ a m : Int, (∀ c, c ∈ cuts → (a < c ↔ m < c)) → f m = f a) (k : Nat) (hk : k + 1 < (ascL cuts).length) (i : Int) (h1 : gi (ascL cuts) k ≤ i) (h2 : i < gi (ascL cuts) (k + 1)) : f i = f (gi (ascL cuts) k) := by
  refine h _ _ fun c hc => ?_
  obtain ⟨j, hj, e⟩ := List.getElem_of_mem ((asc_iff cuts c).2 hc)
  rw [← gi_at _ hj] at e
  by_cases hjk : j ≤ k
  · have : gi (ascL cuts) j ≤ gi (ascL cuts) k := by
      by_cases e2 : j = k
      · rw [e2]; exact Int.le_refl _
      · exact Int.le_of_lt (asc_lt cuts (by omega) (by omega))
    omega
  · have : gi (ascL cuts) (k + 1) ≤ gi (ascL cuts) j := by
      by_cases e2 : j = k + 1
      · rw [e2]; exact Int.le_refl _
      · exact Int.le_of_lt (asc_lt cuts (by omega) hj)
    omega
theorem strV_congr {V : Type} [DecidableEq V] [Inhabited V] {sk : V → Bool} {f g : Int → V} : ∀ n : Nat, (∀ i : Nat, i < n → f i = g i) → strV sk f n = strV sk g n
  | 0, _ => rfl
  | n + 1, h => by rw [strV, strV, strV_congr n (fun i hi => h i (by omega)), h n (by omega)]
/-- The stretches of a function along a line. -/
def strS (L : Int) (f : Int → Int) : List Tri := strV (fun v : Int => v == 0) f L.toNat
theorem strS_congr {L : Int} {f g : Int → Int} (h : ∀ m : Int, 0 ≤ m → m < L → f m = g m) : strS L f = strS L g := strV_congr _ fun i hi => h i (by omega) (by omega)
theorem held_cuts {cuts : List Int} {L : Int} {f : Int → Int} (hL : 0 ≤ L) (hA : 0 ∈ cuts) (hB : L ∈ cuts) (hb : ∀ c, c ∈ cuts → 0 ≤ c ∧ c ≤ L) (h : ∀ a m : Int, (∀ c, c ∈ cuts → (a < c ↔ m < c)) → f m = f a) : heldL (prtK (ascL cuts) f (ascL cuts).length) = strS L f := by
  obtain ⟨e1, e2, e3⟩ := asc_ends hA hB hb
  have := parts_all (sk := fun v : Int => v == 0) (asc_pw cuts) e1 e2 e3 (fun k hk i h1 h2 => asc_const (f := f) h k hk i h1 h2)
  rw [← prtK_V] at this
  exact this
theorem line_jct {L : Int} {js : List Int} (h : lineB L js = true) : ∀ j, j < js.length → 0 < gi js j ∧ gi js j < L := by
  unfold lineB at h
  simp only [Bool.and_eq_true, decide_eq_true_eq, Bool.not_eq_true'] at h
  have hj : ∀ j, j < js.length → jOk L js j = true := fun j hj => by simpa using (anyK_iff _).1 h.2 j hj
  intro j hjl
  have h0 := jOk_pos (L := L) j (fun i hi => hj i (by omega))
  have h3 := hj j hjl
  unfold jOk at h3
  simp only [Bool.and_eq_true, decide_eq_true_eq] at h3
  omega
theorem lst_line {L : Int} {js : List Int} {l : List Sgn} {q : List Edc} (h : lstE L js l q = 0) : lineB L js = true ∧ 1 ≤ L ∧ L ≤ 100000 := by
  unfold lstE at h
  split at h
  · cases h
  next h1 =>
  have h1 : lineB L js = true := by simpa using h1
  have g := h1
  unfold lineB at g
  simp only [Bool.and_eq_true, decide_eq_true_eq] at g
  have := btw_ge g.1.1
  exact ⟨h1, this.1, this.2⟩
theorem dst_in {L dir c : Int} (hd : dirB dir = true) (h1 : 0 ≤ c) (h2 : c ≤ L) : 0 ≤ dstK L dir c ∧ dstK L dir c ≤ L := by
  unfold dstK; split <;> omega
theorem dst_dst {L dir c : Int} : dstK L dir (dstK L dir c) = c := by
  unfold dstK; split <;> omega
theorem opn_in {L : Int} {js : List Int} {dir d : Int} (hd : d ≤ L) (hJ : ∀ j, j < js.length → dstK L dir (gi js j) ≤ L) : ∀ n, n ≤ js.length → d ≤ opnK L js dir d n ∧ opnK L js dir d n ≤ L
  | 0, _ => ⟨hd, Int.le_refl _⟩
  | n + 1, hn => by
    have ih := opn_in hd hJ n (by omega)
    have hj := hJ n (by omega)
    rw [opnK]
    split
    · rw [Int.min_def]; split <;> omega
    · exact ih
/-- The signs of good lists. -/
theorem sgn_in {L : Int} {js : List Int} {l : List Sgn} (h : sgnsB L js l = true) (j : Nat) (hj : j < l.length) : sgnB L (gs l j) = true := by
  unfold sgnsB at h
  simp only [Bool.and_eq_true, decide_eq_true_eq] at h
  have hA := h.1.2
  unfold allB at hA
  simp only [Bool.not_eq_true'] at hA
  simpa using (anyK_iff _).1 hA j hj
theorem sgn_c {L : Int} {s : Sgn} (h : sgnB L s = true) : 0 ≤ s.c ∧ s.c ≤ L := by
  unfold sgnB at h
  simp only [Bool.and_eq_true, decide_eq_true_eq] at h
  have := btw_ge h.1.1.1.1.1.2
  omega
theorem row_in {L : Int} {js : List Int} {dir h : Int} {l : List Sgn} {q : List Edc} {row : List Pst} (hV : lstE L js l q = 0) (hd : dirB dir = true) (H : RowL L js dir h l row) (i : Nat) (hi : i < row.length) : (0 ≤ (gq row i).d ∧ (gq row i).d ≤ L) ∧ 0 ≤ (gq row i).u ∧ (gq row i).u ≤ L := by
  obtain ⟨hl, hL1, hL2⟩ := lst_line hV
  have hsb := lst_sgns hV
  have hval := (lst_good hV).2.2.1
  obtain ⟨e1, ⟨j, hj, e2, -⟩, e3, -⟩ := row_elem H i hi
  have hc := sgn_c (sgn_in hsb j hj)
  rw [← e2] at hc
  have h1 := dst_in hd hc.1 hc.2
  have h2 := opn_in (dir := dir) h1.2 (fun j hj => by
    have := line_jct hl j hj
    exact (dst_in hd (by omega) (by omega)).2) js.length (Nat.le_refl _)
  rw [e1, e3]
  refine ⟨h1, ?_⟩
  split
  next hp =>
    obtain ⟨-, ⟨j2, hj2, e4, -⟩, -, -⟩ := row_elem H (i + 1) hp.1
    have := (hval j2 hj2).2
    rw [← e4] at this
    rw [Int.min_def]
    split <;> omega
  · omega
theorem cutsK_mem {L dir : Int} {row : List Pst} : ∀ n, n ≤ row.length → ∀ c, c ∈ cutsK L dir row n ↔ c = 0 ∨ c = L ∨ ∃ i, i < n ∧ (c = dstK L dir (gq row i).d ∨ c = dstK L dir (gq row i).u)
  | 0, _, c => by simp [cutsK]
  | n + 1, hn, c => by
    rw [cutsK, List.mem_append, cutsK_mem n (by omega) c]
    simp only [List.mem_cons, List.not_mem_nil, or_false]
    constructor
    · rintro ((h | h | ⟨i, hi, h⟩) | h)
      · exact .inl h
      · exact .inr (.inl h)
      · exact .inr (.inr ⟨i, by omega, h⟩)
      · exact .inr (.inr ⟨n, by omega, h⟩)
    · rintro (h | h | ⟨i, hi, h⟩)
      · exact .inl (.inl h)
      · exact .inl (.inr (.inl h))
      · by_cases e : i = n
        · rw [e] at h; exact .inr h
        · exact .inl (.inr (.inr ⟨i, by omega, h⟩))
theorem hld_same {t k k' : Int} : ∀ (row : List Pst), (∀ p, p ∈ row → (k < p.d ↔ k' < p.d) ∧ (p.u ≤ k ↔ p.u ≤ k')) → ∀ v, hldL t k row v = hldL t k' row v
  | [], _, v => rfl
  | p :: r, h, v => by
    obtain ⟨h1, h2⟩ := h p (by simp)
    rw [hldL, hldL]
    have e : stpK p t k v = stpK p t k' v := by
      unfold stpK
      rw [ifc h2]
    rw [ifc h1, e, hld_same r (fun x hx => h x (by simp [hx]))]
theorem beg_lt {L dir m c : Int} (hd : dirB dir = true) : begK L dir m < c ↔ (if dir = 1 then m < dstK L dir c else ¬ m < dstK L dir c) := by
  unfold begK dstK
  by_cases h : dir = 1
  · rw [if_pos h, if_pos h, if_pos h]
  · rw [if_neg h, if_neg h, if_neg h]; omega
/-- What Held says of a row that the program makes: the stretches of what holds on each metre. -/
def heldS (L : Int) (js : List Int) (l : List Sgn) (h dir t : Int) : List Tri := strS L (fun m => hldV L js l h dir t m)
theorem told_const {L : Int} {js : List Int} {dir h t : Int} {l : List Sgn} {q : List Edc} {row : List Pst} (hV : lstE L js l q = 0) (hd : dirB dir = true) (H : RowL L js dir h l row) (a m : Int) (hc : ∀ c, c ∈ cutsK L dir row row.length → (a < c ↔ m < c)) : hldL t (begK L dir m) row 0 = hldL t (begK L dir a) row 0 := by
  refine hld_same row (fun p hp => ?_) 0
  obtain ⟨i, hi, e⟩ := List.getElem_of_mem hp
  have eg : gq row i = p := by unfold gq; simp [hi, e]
  have m1 := hc _ ((cutsK_mem row.length (Nat.le_refl _) _).2 (.inr (.inr ⟨i, hi, .inl rfl⟩)))
  have m2 := hc _ ((cutsK_mem row.length (Nat.le_refl _) _).2 (.inr (.inr ⟨i, hi, .inr rfl⟩)))
  rw [eg] at m1 m2
  have n1 := beg_lt (L := L) (m := m) (c := p.d) hd
  have n2 := beg_lt (L := L) (m := a) (c := p.d) hd
  have n3 := beg_lt (L := L) (m := m) (c := p.u) hd
  have n4 := beg_lt (L := L) (m := a) (c := p.u) hd
  constructor
  · rw [n1, n2]
    split
    · exact m1.symm
    · rw [m1]
  · have : (begK L dir m < p.u ↔ begK L dir a < p.u) := by
      rw [n3, n4]
      split
      · exact m2.symm
      · rw [m2]
    omega
theorem told_cuts {L : Int} {js : List Int} {dir h : Int} {l : List Sgn} {q : List Edc} {row : List Pst} (hV : lstE L js l q = 0) (hd : dirB dir = true) (H : RowL L js dir h l row) : 0 ∈ cutsK L dir row row.length ∧ L ∈ cutsK L dir row row.length ∧ ∀ c, c ∈ cutsK L dir row row.length → 0 ≤ c ∧ c ≤ L := by
  obtain ⟨hl, hL1, hL2⟩ := lst_line hV
  refine ⟨(cutsK_mem row.length (Nat.le_refl _) _).2 (.inl rfl), (cutsK_mem row.length (Nat.le_refl _) _).2 (.inr (.inl rfl)), fun c hc => ?_⟩
  rcases (cutsK_mem row.length (Nat.le_refl _) c).1 hc with rfl | rfl | ⟨i, hi, rfl | rfl⟩
  · omega
  · omega
  · have := row_in hV hd H i hi
    exact dst_in hd this.1.1 this.1.2
  · have := row_in hV hd H i hi
    exact dst_in hd this.2.1 this.2.2
theorem hldM_eq {L : Int} {js : List Int} {dir h t : Int} {l : List Sgn} {q : List Edc} {row : List Pst} (hV : lstE L js l q = 0) (hd : dirB dir = true) (ht : t ≠ 0) (H : RowL L js dir h l row) : hldM L dir t row = heldS L js l h dir t := by
  obtain ⟨hl, hL1, hL2⟩ := lst_line hV
  obtain ⟨c1, c2, c3⟩ := told_cuts hV hd H
  obtain ⟨hn1, hn2⟩ := sgn_nums (lst_sgns hV)
  unfold hldM heldS
  rw [held_cuts (L := L) (by omega) c1 c2 c3 (fun a m hc => told_const hV hd H a m hc)]
  exact strS_congr fun m h1 h2 => hld_ins hn2 ht (beg_bd (by omega) hL2 h1 h2).2 H
/-- The cuts of edicts. -/
def cutsW (L : Int) (q : List Edc) : Nat → List Int
  | 0 => [0, L]
  | k + 1 => cutsW L q k ++ [(ge q k).fr, (ge q k).tt]
theorem cutsW_len (L : Int) (q : List Edc) : ∀ k, (cutsW L q k).length = 2 + 2 * k
  | 0 => rfl
  | k + 1 => by rw [cutsW, List.length_append, cutsW_len L q k]; simp; omega
theorem cutsW_mem {L : Int} {q : List Edc} : ∀ n, n ≤ q.length → ∀ c, c ∈ cutsW L q n ↔ c = 0 ∨ c = L ∨ ∃ i, i < n ∧ (c = (ge q i).fr ∨ c = (ge q i).tt)
  | 0, _, c => by simp [cutsW]
  | n + 1, hn, c => by
    rw [cutsW, List.mem_append, cutsW_mem n (by omega) c]
    simp only [List.mem_cons, List.not_mem_nil, or_false]
    constructor
    · rintro ((h | h | ⟨i, hi, h⟩) | h)
      · exact .inl h
      · exact .inr (.inl h)
      · exact .inr (.inr ⟨i, by omega, h⟩)
      · exact .inr (.inr ⟨n, by omega, h⟩)
    · rintro (h | h | ⟨i, hi, h⟩)
      · exact .inl (.inl h)
      · exact .inl (.inr (.inl h))
      · by_cases e : i = n
        · rw [e] at h; exact .inr h
        · exact .inl (.inr (.inr ⟨i, by omega, h⟩))
theorem edc_in {L : Int} {js : List Int} {q : List Edc} (h : edcsB L js q = true) (j : Nat) (hj : j < q.length) : edcB L (ge q j) = true := by
  unfold edcsB at h
  simp only [Bool.and_eq_true, decide_eq_true_eq] at h
  have hA := h.1.2
  unfold allE at hA
  simp only [Bool.not_eq_true'] at hA
  simpa using (anyK_iff _).1 hA j hj
theorem edc_bd {L : Int} {x : Edc} (h : edcB L x = true) : 0 ≤ x.fr ∧ x.fr < x.tt ∧ x.tt ≤ L := by
  unfold edcB at h
  simp only [Bool.and_eq_true, decide_eq_true_eq] at h
  omega
theorem mustK_same {q : List Edc} {h t d m m' : Int} : ∀ n, n ≤ q.length → (∀ i, i < n → ((ge q i).fr ≤ m ↔ (ge q i).fr ≤ m') ∧ (m < (ge q i).tt ↔ m' < (ge q i).tt)) → mustK q h t d m n = mustK q h t d m' n
  | 0, _, _ => rfl
  | n + 1, hn, hh => by
    rw [mustK, mustK, mustK_same n (by omega) (fun i hi => hh i (by omega))]
    obtain ⟨h1, h2⟩ := hh n (by omega)
    have : edB (ge q n) h t d m = edB (ge q n) h t d m' := by
      unfold edB
      rw [show decide ((ge q n).fr ≤ m) = decide ((ge q n).fr ≤ m') from decide_eq_decide.2 h1, show decide (m < (ge q n).tt) = decide (m' < (ge q n).tt) from decide_eq_decide.2 h2]
    rw [this]
def wantS (L : Int) (q : List Edc) (h dir t : Int) : List Tri := strS L (fun m => mustV q h t dir m)
theorem want_const {L : Int} {q : List Edc} {h t d : Int} (a m : Int) (hc : ∀ c, c ∈ cutsW L q q.length → (a < c ↔ m < c)) : mustV q h t d m = mustV q h t d a := by
  unfold mustV
  rw [mustK_same q.length (Nat.le_refl _) (fun i hi => ?_)]
  have m1 := hc _ ((cutsW_mem q.length (Nat.le_refl _) _).2 (.inr (.inr ⟨i, hi, .inl rfl⟩)))
  have m2 := hc _ ((cutsW_mem q.length (Nat.le_refl _) _).2 (.inr (.inr ⟨i, hi, .inr rfl⟩)))
  constructor <;> omega
theorem want_cuts {L : Int} {js : List Int} {l : List Sgn} {q : List Edc} (hV : lstE L js l q = 0) : 0 ∈ cutsW L q q.length ∧ L ∈ cutsW L q q.length ∧ ∀ c, c ∈ cutsW L q q.length → 0 ≤ c ∧ c ≤ L := by
  obtain ⟨hl, hL1, hL2⟩ := lst_line hV
  refine ⟨(cutsW_mem q.length (Nat.le_refl _) _).2 (.inl rfl), (cutsW_mem q.length (Nat.le_refl _) _).2 (.inr (.inl rfl)), fun c hc => ?_⟩
  rcases (cutsW_mem q.length (Nat.le_refl _) c).1 hc with rfl | rfl | ⟨i, hi, rfl | rfl⟩
  · omega
  · omega
  · have := edc_bd (edc_in (lst_edcs hV) i hi); omega
  · have := edc_bd (edc_in (lst_edcs hV) i hi); omega
theorem wantM_eq {L : Int} {js : List Int} {l : List Sgn} {q : List Edc} {h dir t : Int} (hV : lstE L js l q = 0) : heldL (prtK (ascL (cutsW L q q.length)) (fun m => mustV q h t dir m) (ascL (cutsW L q q.length)).length) = wantS L q h dir t := by
  obtain ⟨hl, hL1, hL2⟩ := lst_line hV
  obtain ⟨c1, c2, c3⟩ := want_cuts hV
  exact held_cuts (L := L) (by omega) c1 c2 c3 (fun a m hc => want_const a m hc)
end Go.Proofs.YtlpdjinhkmgbgaaGreatDoor

namespace Go.Proofs.YtlpdjinhkmgbgaaGreatDoor
set_option linter.unusedVariables false
set_option linter.unusedSimpArgs false
open Go.RowKit

def TriS (w : World) (a : Option Addr) (l : List (Int × Int × Int)) : Prop :=
  l.length ≤ 9223372036854775807 ∧ ∃ blk off, (l ≠ [] → a = some ⟨blk, off, none⟩) ∧ ∀ i, i < l.length → w.cell? ⟨blk, off + i * 3, none⟩ = some (.int .i64 (gt3 l i).1) ∧ w.cell? ⟨blk, off + i * 3 + 1, none⟩ = some (.int .i64 (gt3 l i).2.1) ∧ w.cell? ⟨blk, off + i * 3 + 2, none⟩ = some (.int .i64 (gt3 l i).2.2)
theorem TriS.below {w w' : World} {a : Option Addr} {l : List (Int × Int × Int)} (h : TriS w a l) (hb : Below w.heap.size w w') : TriS w' a l := by
  obtain ⟨h0, blk, off, h2, h3⟩ := h
  exact ⟨h0, blk, off, h2, fun i hi => by
    have hx := h3 i hi
    exact ⟨cell_below hx.1 hb, cell_below hx.2.1 hb, cell_below hx.2.2 hb⟩⟩
theorem tri_own {w : World} {base c : Nat} {a : Option Addr} {zs : List Tri} {T : TypeId} (h : w.ownsRow base T 3 (.slice a zs.length c) zs.length (cl3 zs)) (hn : zs.length ≤ 9223372036854775807) : TriS w a zs := by
  refine ⟨hn, ?_⟩
  rcases h.2 with ⟨h1, h2⟩ | ⟨g2, c2, cur, h1, _⟩
  · exact ⟨0, 0, (fun hne => absurd (List.eq_nil_of_length_eq_zero h2) hne), fun i hi => by omega⟩
  · obtain ⟨rfl, rfl⟩ : a = some ⟨g2, 0, none⟩ ∧ c = c2 := by simpa using h1
    refine ⟨g2, 0, fun _ => rfl, fun i hi => ?_⟩
    obtain ⟨c0, c1, c2⟩ := cl3_c zs i hi
    rw [Nat.zero_add]
    exact ⟨by rw [World.ownsRow.cellAt h (i * 3) (by omega)]; exact c0, by rw [World.ownsRow.cellAt h (i * 3 + 1) (by omega)]; exact c1, by rw [World.ownsRow.cellAt h (i * 3 + 2) (by omega)]; exact c2⟩
theorem tri_nil (w : World) : TriS w none [] := ⟨by decide, 0, 0, fun h => (h rfl).elim, fun i hi => absurd hi (Nat.not_lt_zero i)⟩
end Go.Proofs.YtlpdjinhkmgbgaaGreatDoor

namespace Go.Proofs.YtlpdjinhkmgbgaaGreatDoor
set_option linter.unusedVariables false
set_option linter.unusedSimpArgs false
open Go.RowKit

set_option maxRecDepth 100000 in
set_option maxHeartbeats 1000000 in
theorem wanted1_r (ae : Option Addr) (q : List Edc) (cq eb hb wb : Nat) (h tp dir m : Int) (w : World) (hE : EdS w ae q)
    (c0 : w.cell? ⟨eb, 0, none⟩ = some (.slice ae q.length cq)) (c1 : w.cell? ⟨hb, 0, none⟩ = some (.int .i64 h)) (c2 : w.cell? ⟨wb, 0, none⟩ = some (.int .i64 tp)) (c3 : w.cell? ⟨wb, 1, none⟩ = some (.int .i64 dir)) :
    Calls Tryz.prog 72 (#[.int .i64 m] ++ #[.pointer (some ⟨eb, 0, none⟩), .pointer (some ⟨hb, 0, none⟩), .pointer (some ⟨wb, 0, none⟩)]) w fun e w' => e = .returned (.int .i64 (mustV q h tp dir m)) ∧ Below w.heap.size w w' := by
  change Calls Tryz.prog 72 #[.int .i64 m, .pointer (some ⟨eb, 0, none⟩), .pointer (some ⟨hb, 0, none⟩), .pointer (some ⟨wb, 0, none⟩)] w _
  have HM := Lib.hid (mustAt_r ae q cq h tp dir m w hE)
  clear hE
  go_enter Tryz.func72, Tryz.ntmps72
  go_wp2_with (go_at_call 52; refine HM.out.mono ?_; rintro e w3 ⟨rfl, hb3⟩)
  go_ret
  exact ⟨rfl, hb3⟩
set_option maxRecDepth 100000 in
set_option maxHeartbeats 4000000 in
theorem partsW_r (a : Option Addr) (cuts : List Int) (ca : Nat) (lb : Array Value) (f : Int → Int) (w : World) (hA : IntsS w a cuts) (hne : cuts ≠ []) (hn : cuts.length ≤ 1000000)
    (hf : ∀ m W, m ∈ cuts → Below w.heap.size w W → Calls Tryz.prog 72 (#[.int .i64 m] ++ lb) W fun e w' => e = .returned (.int .i64 (f m)) ∧ Below W.heap.size W w') :
    Calls Tryz.prog 54 #[.slice a cuts.length ca, .func (.func 72) #[] lb] w (PrtE w (ascL cuts) f) := by
  obtain ⟨hlen, -, blk, off, hadr, hc⟩ := hA
  obtain rfl := hadr hne
  have HV := Lib.hid (fun W => values_in (some ⟨blk, off, none⟩) cuts.length ca W)
  have hbk : blk < w.heap.size := block_lt (hc 0 (by cases cuts with | nil => exact absurd rfl hne | cons x l => simp))
  have HS := Lib.hid (sorted_in w.heap.size blk off ca cuts (by omega) (w.alloc (.cells #[.slice (some ⟨blk, off, none⟩) cuts.length ca] 22)) (by simp) (by simp; omega) (by simp [go_sem]) (fun j hj => by
    rw [((Below.refl w.heap.size w).alloc (Nat.le_refl _) _).cell (p := ⟨blk, off + j, none⟩) hbk, hc j hj]; simp [gi]))
  have HC := Lib.hid (fun W a c (h : W.ownsRow (w.heap.size + 1) 3 1 (.slice a cuts.length c) cuts.length (clI (srt cuts))) => compact_own (w.heap.size + 1) c a (srt cuts) W (by rw [srt_len]; exact h) (by rw [srt_len]; omega))
  have HF := Lib.hid hf
  have HZ : Hid (0 < (ascL cuts).length ∧ (ascL cuts).length ≤ cuts.length ∧ ∀ k, k < (ascL cuts).length → gi (ascL cuts) k ∈ cuts) := Lib.hid ⟨asc_pos hne, asc_len cuts, fun k hk => asc_mem hk⟩
  have HL : Hid (Lib.compact (srt cuts) = ascL cuts) := Lib.hid rfl
  rw [HL.out, srt_len] at HC
  generalize ascL cuts = z at *
  obtain ⟨n0, hi, hz0, hz1, hz2⟩ := info_parts partInfo
  clear hf hc hadr HL hlen
  go_enter Tryz.func54, Tryz.ntmps54
  go_wp2_with (first | (go_at_call 75; refine (HV.out _).mono ?_; rintro e w7 ⟨rfl, rfl⟩) | (go_at_call 74; refine HS.out.mono ?_; rintro e w8 ⟨a8, c8, rfl, hr8, hb8⟩; have HC8 := Lib.hid (HC.out _ _ _ (by simpa using hr8)); have hz8 := hb8.size) | (go_at_call 73; refine HC8.out.mono ?_; rintro e w9 ⟨rfl, hr9, hb9⟩))
  have hbo : Below w.heap.size w w9 := ((Below.refl w.heap.size w).alloc (Nat.le_refl _) _).trans ((hb8.mono (by simp)).trans ((hb9 (by simp at hz8; omega)).mono (by omega)))
  have HOwn := Lib.hid hr9
  clear hr9 hb9 hb8 hr8 HC HC8 HS HV hz8
  have HCz : Hid (∀ k, k < z.length → ∃ g, a8 = some ⟨g, 0, none⟩ ∧ w9.cell? ⟨g, k, none⟩ = some (.int .i64 (gi z k))) := Lib.hid fun k hk => by
    have h := HOwn.out
    rcases h.2 with ⟨h1, h2⟩ | ⟨g2, c2, cur, h1, _⟩
    · omega
    · obtain ⟨rfl, rfl⟩ : a8 = some ⟨g2, 0, none⟩ ∧ c8 = c2 := by simpa using h1
      refine ⟨g2, rfl, ?_⟩
      rw [World.ownsRow.cellAt h k (by omega)]
      exact clI_get z (by omega)
  clear HOwn
  obtain ⟨hzp, hzl, -⟩ := HZ.out
  obtain ⟨wo, rfl⟩ : ∃ wo : World, wo = w9 := ⟨_, rfl⟩
  go_wp2_with fail
  go_loopw [6, 7] (fun q i wr => ∃ k : Nat, 0 < k ∧ k ≤ z.length ∧ i = .int .i64 k ∧ (∃ a c, q = .slice a (prtK z f k).length c) ∧ Hid (wr.ownsRow wo.heap.size 106 3 q (prtK z f k).length (cl3 (prtK z f k))) ∧ Below wo.heap.size wo wr) (fun _ i _ => z.length - (intOf i).toNat)
  case atStart => exact ⟨1, by omega, by omega, rfl, ⟨none, 0, rfl⟩, Lib.hid ⟨rfl, .inl ⟨rfl, rfl⟩⟩, Below.refl _ _⟩
  case round =>
    obtain ⟨k, hk0, hk, rfl, ⟨av, cv, rfl⟩, HRow, hbr⟩ := hrel
    by_cases hlt : k < z.length
    · have hkl := prtK_len z f k
      obtain ⟨t, hti⟩ : ∃ t : Nat, (k : Int) - 1 = (t : Int) := ⟨k - 1, by omega⟩
      have htz : t < z.length := by omega
      have htw : IntKind.i64.wrap ((k : Int) - 1) = (t : Int) := by rw [hti]; exact IntWalk.i64_in _ (by omega)
      obtain ⟨g, rfl, c0⟩ := HCz.out t htz
      obtain ⟨g', hg', c1⟩ := HCz.out k hlt
      obtain rfl : g = g' := by simpa using hg'
      have c0 := cell_below c0 hbr
      have c1 := cell_below c1 hbr
      have hmx := HZ.out.2.2 t htz
      have hbw := hbo.trans (hbr.mono hbo.size)
      have HN : Hid (prtK z f (k + 1) = prt1 (prtK z f k) (gi z t) (gi z k) (f (gi z t))) := Lib.hid (by rw [prtK, if_neg (by omega), show k - 1 = t by omega])
      have HFx := Lib.hid (fun W (hW : Below w.heap.size w W) => HF.out (gi z t) W hmx hW)
      clear hg' hmx HCz HF HZ
      generalize f (gi z t) = v at *
      generalize gi z t = x at *
      generalize gi z k = y at *
      obtain ⟨S, hS⟩ : ∃ S, prtK z f k = S := ⟨_, rfl⟩
      rw [hS] at HN HRow hkl ⊢
      clear hS
      have hk64 : (k : Int) < (z.length : Int) := by omega
      go_wp2_with fail
      go_quiet (fail)
      have hbA := below_drewN hbr nq
      have hbB := below_drewN hbw nq
      have HRow := Lib.hid (owns_belowI HRow.out (below_drewN (Below.refl wr.heap.size wr) nq))
      generalize wr.drewN nq = wA at hbA hbB HRow ⊢
      clear c0 c1
      go_wp2_with fail
      refine (HFx.out _ hbB).mono ?_
      rintro e w7 ⟨rfl, hb7⟩
      have hbA := hbA.trans (hb7.mono hbA.size)
      have HRow := Lib.hid (owns_belowI HRow.out hb7)
      clear hbB hb7 HFx
      generalize w7 = wA at hbA HRow ⊢
      by_cases h0 : S.length = 0
      · have hS0 := List.eq_nil_of_length_eq_zero h0
        subst hS0
        have HAP : Hid (prtK z f (k + 1) = [(x, y, v)]) := Lib.hid (by rw [HN.out]; rfl)
        clear HN
        have HAP : Hid (0 + 1 = (prtK z f (k + 1)).length ∧ ([] : List Value) ++ [.int .i64 x, .int .i64 y, .int .i64 v] = cl3 (prtK z f (k + 1))) := Lib.hid (by rw [HAP.out]; exact ⟨rfl, rfl⟩)
        have HRow : Hid (wA.ownsRow wo.heap.size 106 3 (.slice av 0 cv) 0 []) := HRow
        clear h0
        have hown := Lib.hid (HRow.out.alloc (.cells #[.int .i64 x, .int .i64 y, .int .i64 v] 106))
        have hbs := hbA.size
        go_wp2_with (first | (at_builtin; go_loud (refine wpList_append_lies _ rfl _ _ 102 rfl wo.heap.size 106 n0 _ 3 24 Tryz.underlying102 hi hz0 hz1 hz2 rfl (by decide) (.slice _ 0 cv) 0 _ (by rfl) hown.out ⟨wA.heap.size, 0, none⟩ 1 1 [.int .i64 x, .int .i64 y, .int .i64 v] (by rfl) (by rfl) ?d1 ?d2 (by decide) ?d3 ?d4 ?d5 _ rfl ?_)))
        case d1 =>
          refine World.news_of_block (cs := #[.int .i64 x, .int .i64 y, .int .i64 v]) (t := 106) (fr := (0, 0)) ?_
          exact heap_alloc_new _ _
        case d2 => simp [Value.oneCell']
        case d3 => unfold maxLen; omega
        case d4 => omega
        case d5 => first | (simp; omega) | simp | omega
        intro g6 c6 w6 hown6 hgrow6 hat6 hlt6
        have hb6 : Below wo.heap.size wo w6 := ((hbA.alloc hbs _).grown hgrow6 (by first | (simp; omega) | simp | omega) (fun z hz => owns_blockI hown.out hz))

        go_wp2_with fail
        go_roundw
        case rel => exact ⟨k + 1, by omega, by omega, by go_num, ⟨_, c6, by rw [← HAP.out.1]⟩, Lib.hid (by rw [← HAP.out.1, ← HAP.out.2]; exact hown6), hb6⟩
        case measure => simp [intOf]; omega
      · obtain ⟨u, hu⟩ : ∃ u, S.length = u + 1 := ⟨S.length - 1, by omega⟩
        have hui : (S.length : Int) - 1 = (u : Int) := by omega
        have hu0 : (0 : Int) ≤ (u : Int) := by omega
        have hu2 : (u : Int) < (S.length : Int) := by omega
        have huw : IntKind.i64.wrap ((S.length : Int) - 1) = (u : Int) := by rw [hui]; exact IntWalk.i64_in _ (by omega)
        obtain ⟨gj, hgj⟩ : ∃ gj, av = some ⟨gj, 0, none⟩ := by
          rcases HRow.out.2 with ⟨h1, h2⟩ | ⟨g2, c2, cur, h1, _⟩
          · omega
          · exact ⟨g2, by simpa using (Value.slice.inj h1).1⟩
        subst hgj
        have cy := World.ownsRow.cellAt HRow.out (u * 3 + 2) (by omega)
        rw [(cl3_c S u (by omega)).2.2] at cy
        have cx := World.ownsRow.cellAt HRow.out (u * 3 + 1) (by omega)
        rw [(cl3_c S u (by omega)).2.1] at cx
        have fx := World.ownsRow.frozenAt HRow.out (u * 3 + 1)
        have hgl : wo.heap.size ≤ gj := by
          rcases HRow.out.2 with ⟨h1, h2⟩ | ⟨g2, c2, cur, h1, h2, _⟩
          · omega
          · have : gj = g2 := by simpa using (Value.slice.inj h1).1
            omega
        have HJ : Hid (prt1 S x y v = if (gt3 S u).2.2 = v then S.set u ((gt3 S u).1, y, v) else S ++ [(x, y, v)]) := Lib.hid (by
          unfold prt1
          rw [show S.length - 1 = u by omega]
          by_cases hx : (gt3 S u).2.2 = v
          · rw [if_pos ⟨by omega, hx⟩, if_pos hx]
          · rw [if_neg (fun h => hx h.2), if_neg hx])
        have HSE := Lib.hid (cl3_set S u y (by omega))
        by_cases hx : (gt3 S u).2.2 = v
        · have hJ := HJ.out
          rw [if_pos hx] at hJ
          have HNn : Hid (prtK z f (k + 1) = S.set u ((gt3 S u).1, y, (gt3 S u).2.2)) := Lib.hid (by rw [HN.out, hJ, hx])
          clear hJ HJ HN
          have HST : Hid (∀ W : World, W.ownsRow wo.heap.size 106 3 (.slice (some ⟨gj, 0, none⟩) S.length cv) S.length (cl3 S) → (W.setCell ⟨gj, u * 3 + 1, none⟩ (.int .i64 y)).ownsRow wo.heap.size 106 3 (.slice (some ⟨gj, 0, none⟩) (prtK z f (k + 1)).length cv) (prtK z f (k + 1)).length (cl3 (prtK z f (k + 1)))) := Lib.hid fun W h => by
            rw [HNn.out, List.length_set, ← HSE.out]
            exact (World.ownsRow.stored h (u * 3 + 1) (.int .i64 y)).1
          have HLn : Hid ((prtK z f (k + 1)).length = S.length) := Lib.hid (by rw [HNn.out, List.length_set])
          clear HNn HSE hu
          generalize (gt3 S u).2.2 = q at *
          generalize (gt3 S u).2.1 = q1 at *
          subst hx
          go_wp2_with fail
          go_roundw
          case rel => exact ⟨k + 1, by omega, by omega, by go_num, ⟨_, cv, by rw [HLn.out]⟩, Lib.hid (by have := HST.out _ HRow.out; rwa [HLn.out] at this ⊢), hbA.setCell (p := ⟨gj, u * 3 + 1, none⟩) hgl _⟩
          case measure => simp [intOf]; omega
        · have hJ := HJ.out
          rw [if_neg hx] at hJ
          have HAP : Hid (S.length + 1 = (prtK z f (k + 1)).length ∧ cl3 S ++ [.int .i64 x, .int .i64 y, .int .i64 v] = cl3 (prtK z f (k + 1))) := Lib.hid (by rw [HN.out, hJ, cl3_app]; exact ⟨by simp, rfl⟩)
          clear hJ HJ HN hu cx fx HSE
          generalize (gt3 S u).2.2 = q at *
          have hqv : (q == v) = false := beq_false_of_ne hx
          have hown := Lib.hid (HRow.out.alloc (.cells #[.int .i64 x, .int .i64 y, .int .i64 v] 106))
          have hbs := hbA.size
          go_wp2_with (first | (at_builtin; go_loud (refine wpList_append_lies _ rfl _ _ 102 rfl wo.heap.size 106 n0 _ 3 24 Tryz.underlying102 hi hz0 hz1 hz2 rfl (by decide) (.slice _ S.length cv) S.length _ (by rfl) hown.out ⟨wA.heap.size, 0, none⟩ 1 1 [.int .i64 x, .int .i64 y, .int .i64 v] (by rfl) (by rfl) ?d1 ?d2 (by decide) ?d3 ?d4 ?d5 _ rfl ?_)))
          case d1 =>
            refine World.news_of_block (cs := #[.int .i64 x, .int .i64 y, .int .i64 v]) (t := 106) (fr := (0, 0)) ?_
            exact heap_alloc_new _ _
          case d2 => simp [Value.oneCell']
          case d3 => unfold maxLen; omega
          case d4 => omega
          case d5 => first | (simp; omega) | simp | omega
          intro g6 c6 w6 hown6 hgrow6 hat6 hlt6
          have hb6 : Below wo.heap.size wo w6 := ((hbA.alloc hbs _).grown hgrow6 (by first | (simp; omega) | simp | omega) (fun z hz => owns_blockI hown.out hz))

          go_wp2_with fail
          go_roundw
          case rel => exact ⟨k + 1, by omega, by omega, by go_num, ⟨_, c6, by rw [← HAP.out.1]⟩, Lib.hid (by rw [← HAP.out.1, ← HAP.out.2]; exact hown6), hb6⟩
          case measure => simp [intOf]; omega
    · obtain rfl : k = z.length := by omega
      have hbw := hbo.trans (hbr.mono hbo.size)
      have HEnd : Hid (PrtE w z f (.returned (.slice av (prtK z f z.length).length cv)) wr) := Lib.hid ⟨av, cv, rfl, owns_baseI HRow.out hbo.size, hbw⟩
      clear HRow
      go_wp2_with fail
      go_ret
      exact HEnd.out
set_option maxRecDepth 100000 in
set_option maxHeartbeats 4000000 in
theorem heldW_r (a : Option Addr) (cuts : List Int) (ca : Nat) (lb : Array Value) (f : Int → Int) (w : World) (hA : IntsS w a cuts) (hne : cuts ≠ []) (hn : cuts.length ≤ 1000000)
    (hf : ∀ m W, m ∈ cuts → Below w.heap.size w W → Calls Tryz.prog 72 (#[.int .i64 m] ++ lb) W fun e w' => e = .returned (.int .i64 (f m)) ∧ Below W.heap.size W w') :
    Calls Tryz.prog 47 #[.agg #[.func (.func 72) #[] lb, .slice a cuts.length ca]] w (HldE w (heldL (prtK (ascL cuts) f (ascL cuts).length))) := by
  have HP := Lib.hid (fun W (hW : Below w.heap.size w W) => partsW_r a cuts ca lb f W (hA.below hW) hne hn (fun m W' hm hb => hf m W' hm (below_onR hW hb)))
  have HLen : Hid ((prtK (ascL cuts) f (ascL cuts).length).length ≤ cuts.length) := Lib.hid (Nat.le_trans (prtK_len _ _ _) (asc_len cuts))
  obtain ⟨n0, hi, hz0, hz1, hz2⟩ := info_parts heldInfo
  have HU : Hid (∀ W e w', PrtE W (ascL cuts) f e w' → ∃ b c, e = .returned (.slice b (prtK (ascL cuts) f (ascL cuts).length).length c) ∧ w'.ownsRow W.heap.size 106 3 (.slice b (prtK (ascL cuts) f (ascL cuts).length).length c) (prtK (ascL cuts) f (ascL cuts).length).length (cl3 (prtK (ascL cuts) f (ascL cuts).length)) ∧ Below W.heap.size W w') := Lib.hid fun W e w' h => h
  clear hf hA
  go_enter Tryz.func47, Tryz.ntmps47
  go_wp2_with (go_at_call 54; refine (HP.out _ ((Below.refl w.heap.size w).alloc (Nat.le_refl _) _)).mono ?_; rintro e w7 hw7; obtain ⟨b, c, rfl, hr7, hb7⟩ := HU.out _ _ _ hw7)
  generalize prtK (ascL cuts) f (ascL cuts).length = P at *
  have hbo : Below w.heap.size w w7 := below_onR ((Below.refl w.heap.size w).alloc (Nat.le_refl _) _) hb7
  have HOwn := Lib.hid hr7
  have HCz : Hid (∀ k, k < P.length → ∃ g, b = some ⟨g, 0, none⟩ ∧ w7.cell? ⟨g, k * 3, none⟩ = some (.int .i64 (gt3 P k).1) ∧ w7.cell? ⟨g, k * 3 + 1, none⟩ = some (.int .i64 (gt3 P k).2.1) ∧ w7.cell? ⟨g, k * 3 + 2, none⟩ = some (.int .i64 (gt3 P k).2.2)) := Lib.hid fun k hk => by
    have h := HOwn.out
    rcases h.2 with ⟨h1, h2⟩ | ⟨g2, c2, cur, h1, _⟩
    · omega
    · obtain ⟨rfl, rfl⟩ : b = some ⟨g2, 0, none⟩ ∧ c = c2 := by simpa using h1
      have hh := cl3_c P k hk
      refine ⟨g2, rfl, ?_, ?_, ?_⟩
      · rw [World.ownsRow.cellAt h (k * 3) (by omega)]; exact hh.1
      · rw [World.ownsRow.cellAt h (k * 3 + 1) (by omega)]; exact hh.2.1
      · rw [World.ownsRow.cellAt h (k * 3 + 2) (by omega)]; exact hh.2.2
  clear HOwn hr7 hb7 hw7 HU HP
  obtain ⟨wo, rfl⟩ : ∃ wo : World, wo = w7 := ⟨_, rfl⟩
  have hPl := HLen.out
  go_wp2_with fail
  go_loopw [3, 12] (fun q i wr => ∃ k : Nat, k ≤ P.length ∧ i = .int .i64 k ∧ (∃ a c, q = .slice a (heldL (P.take k)).length c) ∧ Hid (wr.ownsRow wo.heap.size 70 3 q (heldL (P.take k)).length (cl3 (heldL (P.take k)))) ∧ Below wo.heap.size wo wr) (fun _ i _ => P.length - (intOf i).toNat)
  case atStart => exact ⟨0, Nat.zero_le _, rfl, ⟨none, 0, rfl⟩, Lib.hid ⟨rfl, .inl ⟨rfl, rfl⟩⟩, Below.refl _ _⟩
  case round =>
    obtain ⟨k, hk, rfl, ⟨av, cv, rfl⟩, HRow, hbr⟩ := hrel
    have hMl : (heldL (P.take k)).length ≤ k := heldL_len (by simp; omega)
    by_cases hlt : k < P.length
    · obtain ⟨g, rfl, c0, c1, c2⟩ := HCz.out k hlt
      have c0 := cell_below c0 hbr
      have c1 := cell_below c1 hbr
      have c2 := cell_below c2 hbr
      have HN : Hid (heldL (P.take (k + 1)) = if (gt3 P k).2.2 = 0 then heldL (P.take k) else heldL (P.take k) ++ [((gt3 P k).1, (gt3 P k).2.1, (gt3 P k).2.2)]) := Lib.hid (heldL_succ P hlt)
      clear HCz
      generalize (gt3 P k).1 = x at *
      generalize (gt3 P k).2.1 = y at *
      generalize (gt3 P k).2.2 = v at *
      obtain ⟨M, hM⟩ : ∃ M, heldL (P.take k) = M := ⟨_, rfl⟩
      rw [hM] at HN HRow hMl ⊢
      clear hM
      have hk64 : (k : Int) < (P.length : Int) := by omega
      have hsz := hbr.size
      have hbA : Below wo.heap.size wo (wr.alloc (.cells #[.int .i64 x, .int .i64 y, .int .i64 v] 106)) := hbr.alloc hsz _
      have HRow := Lib.hid (HRow.out.alloc (.cells #[.int .i64 x, .int .i64 y, .int .i64 v] 106))
      have s0 : (wr.alloc (.cells #[.int .i64 x, .int .i64 y, .int .i64 v] 106)).cell? ⟨wr.heap.size, 0, none⟩ = some (.int .i64 x) := by simp [go_sem]
      have s1 : (wr.alloc (.cells #[.int .i64 x, .int .i64 y, .int .i64 v] 106)).cell? ⟨wr.heap.size, 1, none⟩ = some (.int .i64 y) := by simp [go_sem]
      have s2 : (wr.alloc (.cells #[.int .i64 x, .int .i64 y, .int .i64 v] 106)).cell? ⟨wr.heap.size, 2, none⟩ = some (.int .i64 v) := by simp [go_sem]
      by_cases hv : v = 0
      · have hN := HN.out
        rw [if_pos hv] at hN
        have HNn := Lib.hid hN
        clear hN HN s0 s1 s2
        subst hv
        go_wp2_with fail
        go_roundw
        case rel => exact ⟨k + 1, by omega, by go_num, ⟨_, cv, by rw [HNn.out]⟩, Lib.hid (by rw [HNn.out]; exact HRow.out), hbA⟩
        case measure => simp [intOf]; omega
      · have hN := HN.out
        rw [if_neg hv] at hN
        have HAP : Hid (M.length + 1 = (heldL (P.take (k + 1))).length ∧ cl3 M ++ [.int .i64 x, .int .i64 y, .int .i64 v] = cl3 (heldL (P.take (k + 1)))) := Lib.hid (by rw [hN, cl3_app]; exact ⟨by simp, rfl⟩)
        clear hN HN
        have hv2 : (v == 0) = false := beq_false_of_ne hv
        obtain ⟨wA, hwA⟩ : ∃ wA, wr.alloc (.cells #[.int .i64 x, .int .i64 y, .int .i64 v] 106) = wA := ⟨_, rfl⟩
        rw [hwA] at s0 s1 s2 HRow hbA
        have hown := Lib.hid (HRow.out.alloc (.cells #[.int .i64 x, .int .i64 y, .int .i64 v] 70))
        have hbs := hbA.size
        go_wp2_with (first | (at_builtin; go_loud (refine wpList_append_lies _ rfl _ _ 44 rfl wo.heap.size 70 n0 _ 3 24 Tryz.underlying44 hi hz0 hz1 hz2 rfl (by decide) (.slice _ M.length cv) M.length _ (by rfl) hown.out ⟨wA.heap.size, 0, none⟩ 1 1 [.int .i64 x, .int .i64 y, .int .i64 v] (by rfl) (by rfl) ?d1 ?d2 (by decide) ?d3 ?d4 ?d5 _ rfl ?_)))
        case d1 =>
          refine World.news_of_block (cs := #[.int .i64 x, .int .i64 y, .int .i64 v]) (t := 70) (fr := (0, 0)) ?_
          exact heap_alloc_new _ _
        case d2 => simp [Value.oneCell']
        case d3 => unfold maxLen; omega
        case d4 => omega
        case d5 => first | (simp; omega) | simp | omega
        intro g6 c6 w6 hown6 hgrow6 hat6 hlt6
        have hb6 : Below wo.heap.size wo w6 := ((hbA.alloc hbs _).grown hgrow6 (by first | (simp; omega) | simp | omega) (fun z hz => owns_blockI hown.out hz))

        go_wp2_with fail
        go_roundw
        case rel => exact ⟨k + 1, by omega, by go_num, ⟨_, c6, by rw [← HAP.out.1]⟩, Lib.hid (by rw [← HAP.out.1, ← HAP.out.2]; exact hown6), hb6⟩
        case measure => simp [intOf]; omega
    · obtain rfl : k = P.length := by omega
      have hbw := hbo.trans (hbr.mono hbo.size)
      have HEnd : Hid (HldE w (heldL P) (.returned (.slice av (heldL (P.take P.length)).length cv)) wr) := Lib.hid ⟨av, cv, by rw [List.take_length], by have := owns_baseI HRow.out hbo.size; rwa [List.take_length] at this, hbw⟩
      clear HRow
      go_wp2_with fail
      go_ret
      exact HEnd.out
theorem cutsW_pair (L : Int) (q : List Edc) (k : Nat) : clI (cutsW L q (k + 1)) = clI (cutsW L q k) ++ [.int .i64 (ge q k).fr, .int .i64 (ge q k).tt] := by rw [cutsW]; simp [clI]
theorem cutsW_ne (L : Int) (q : List Edc) (k : Nat) : cutsW L q k ≠ [] := fun e => by
  have := cutsW_len L q k
  rw [e] at this
  simp at this
  omega
theorem edcs_len {L : Int} {js : List Int} {q : List Edc} (h : edcsB L js q = true) : q.length ≤ 50 := by
  unfold edcsB at h
  simp only [Bool.and_eq_true, decide_eq_true_eq] at h
  exact h.1.1.2
/-- A course of edicts comes back. -/
def WantE (L : Int) (ae : Option Addr) (q : List Edc) (cq : Nat) (h tp dir : Int) (w : World) (e : Ending) (w' : World) : Prop :=
  ∃ (eb hb wb : Nat) (aq : Option Addr) (cq2 : Nat), w'.cell? ⟨eb, 0, none⟩ = some (.slice ae q.length cq) ∧ w'.cell? ⟨hb, 0, none⟩ = some (.int .i64 h) ∧ w'.cell? ⟨wb, 0, none⟩ = some (.int .i64 tp) ∧ w'.cell? ⟨wb, 1, none⟩ = some (.int .i64 dir) ∧
    e = .returned (.agg #[.func (.func 72) #[] #[.pointer (some ⟨eb, 0, none⟩), .pointer (some ⟨hb, 0, none⟩), .pointer (some ⟨wb, 0, none⟩)], .slice aq (cutsW L q q.length).length cq2]) ∧ IntsS w' aq (cutsW L q q.length) ∧ Below w.heap.size w w'
set_option maxRecDepth 100000 in
set_option maxHeartbeats 2000000 in
theorem wanted_r (L : Int) (a : Option Addr) (n ca : Nat) (ae : Option Addr) (q : List Edc) (cq : Nat) (h tp dir : Int) (hn : q.length ≤ 1000) (hq : ∀ j, j < q.length → -1000000 ≤ (ge q j).fr ∧ (ge q j).fr ≤ 1000000 ∧ -1000000 ≤ (ge q j).tt ∧ (ge q j).tt ≤ 1000000) (hL : -1000000 ≤ L ∧ L ≤ 1000000) (w : World) (hE : EdS w ae q) :
    Calls Tryz.prog 30 #[.agg #[.int .i64 L, .slice a n ca], .slice ae q.length cq, .int .i64 h, .agg #[.int .i64 tp, .int .i64 dir]] w (WantE L ae q cq h tp dir w) := by
  obtain ⟨-, blk, off, hadr, hc⟩ := hE
  have HC := Lib.hid hc
  have HA : Hid (0 < q.length → ae = some ⟨blk, off, none⟩) := Lib.hid fun h => hadr (List.ne_nil_of_length_pos h)
  have HQ := Lib.hid hq
  have HBL := Lib.hid hL
  obtain ⟨n0, hi, hz0, hz1, hz2⟩ := info_parts infoInt
  clear hc hadr hq hL
  go_enter Tryz.func30, Tryz.ntmps30
  go_upto_region 1 with (fail)
  obtain ⟨wX, hwX⟩ : ∃ wX, ((((w.alloc (.cells #[.int .i64 L, .slice a n ca] 24)).alloc (.cells #[.slice ae q.length cq] 26)).alloc (.cells #[.int .i64 h] 3)).alloc (.cells #[.int .i64 tp, .int .i64 dir] 73)).alloc (.cells #[.nilFunc, .slice none 0 0] 77) = wX := ⟨_, rfl⟩
  have hb : Below w.heap.size w wX := by rw [← hwX]; exact (((((Below.refl _ _).alloc (Nat.le_refl _) _).alloc (by simp) _).alloc (by simp; omega) _).alloc (by simp; omega) _).alloc (by simp; omega) _
  have hsz : w.heap.size + 4 < wX.heap.size := by rw [← hwX]; simp
  have l0 : wX.cell? ⟨w.heap.size, 0, none⟩ = some (.int .i64 L) := by rw [← hwX]; simp [go_sem]
  have e0 : wX.cell? ⟨w.heap.size + 1, 0, none⟩ = some (.slice ae q.length cq) := by rw [← hwX]; simp [go_sem]
  have h0 : wX.cell? ⟨w.heap.size + 1 + 1, 0, none⟩ = some (.int .i64 h) := by rw [← hwX]; simp [go_sem]
  have y0 : wX.cell? ⟨w.heap.size + 1 + 1 + 1, 0, none⟩ = some (.int .i64 tp) := by rw [← hwX]; simp [go_sem]
  have y1 : wX.cell? ⟨w.heap.size + 1 + 1 + 1, 1, none⟩ = some (.int .i64 dir) := by rw [← hwX]; simp [go_sem]
  have r0 : wX.cell? ⟨w.heap.size + 1 + 1 + 1 + 1, 0, none⟩ = some (.nilFunc) := by rw [← hwX]; simp [go_sem]
  have r1 : wX.cell? ⟨w.heap.size + 1 + 1 + 1 + 1, 1, none⟩ = some (.slice none 0 0) := by rw [← hwX]; simp [go_sem]
  have f0 : wX.frozen? ⟨w.heap.size + 1 + 1 + 1 + 1, 0, none⟩ = false := by rw [← hwX]; simp [go_sem]
  have f1 : wX.frozen? ⟨w.heap.size + 1 + 1 + 1 + 1, 1, none⟩ = false := by rw [← hwX]; simp [go_sem]
  rw [hwX]
  clear hwX
  have L0 := Lib.hid l0
  have E0 := Lib.hid e0
  have H0 := Lib.hid h0
  have Y0 := Lib.hid y0
  have Y1 := Lib.hid y1
  have R0 := Lib.hid r0
  have R1 := Lib.hid r1
  have F0 := Lib.hid f0
  have F1 := Lib.hid f1
  have HB := Lib.hid hb
  have hlen2 := Lib.hid (cutsW_len L q)
  clear f0 f1 r0 r1 hb y0 y1 h0
  have hown0 : Hid ((wX.alloc (.cells #[.int .i64 0, .int .i64 L] 3)).ownsRow wX.heap.size 3 1 (.slice (some ⟨wX.heap.size, 0, none⟩) (cutsW L q 0).length 2) (cutsW L q 0).length (clI (cutsW L q 0))) := Lib.hid (by
    exact ⟨rfl, .inr ⟨wX.heap.size, 2, #[.int .i64 0, .int .i64 L], rfl, Nat.le_refl _, heap_alloc_new _ _, Nat.le_refl 2, by decide, rfl, rfl⟩⟩)
  go_upto_region 2 with (fail)
  obtain ⟨wY, hwY⟩ : ∃ wY, wX.alloc (.cells #[.int .i64 0, .int .i64 L] 3) = wY := ⟨_, rfl⟩
  have hby : Below wX.heap.size wX wY := by rw [← hwY]; exact (Below.refl _ _).alloc (Nat.le_refl _) _
  rw [hwY] at hown0 ⊢
  clear hwY
  replace e0 := cell_below e0 hby
  have HBX0 := Lib.hid hby
  clear hby
  go_wp2_with fail
  clear l0 e0
  go_loopw [9, 17] (fun z i9 wr => ∃ k : Nat, k ≤ q.length ∧ i9 = .int .i64 k ∧ (∃ a c, z = .slice a (cutsW L q k).length c) ∧ Hid (wr.ownsRow wX.heap.size 3 1 z (cutsW L q k).length (clI (cutsW L q k))) ∧ Below wX.heap.size wX wr) (fun _ i9 _ => q.length - (intOf i9).toNat)
  case atStart => exact ⟨0, Nat.zero_le _, rfl, ⟨_, _, rfl⟩, hown0, HBX0.out⟩
  case round =>
    clear hown0
    obtain ⟨k, hk, rfl, ⟨av, cv, rfl⟩, HRow, hbr⟩ := hrel
    by_cases hlt : k < q.length
    · obtain rfl := HA.out (by omega)
      obtain ⟨c0, c1, c2, c3, c4, c5, c6, c7⟩ := HC.out k hlt
      have c0 := cell_below c0 (HB.out.trans (hbr.mono HB.out.size))
      have c1 := cell_below c1 (HB.out.trans (hbr.mono HB.out.size))
      have c2 := cell_below c2 (HB.out.trans (hbr.mono HB.out.size))
      have c3 := cell_below c3 (HB.out.trans (hbr.mono HB.out.size))
      have c4 := cell_below c4 (HB.out.trans (hbr.mono HB.out.size))
      have c5 := cell_below c5 (HB.out.trans (hbr.mono HB.out.size))
      have c6 := cell_below c6 (HB.out.trans (hbr.mono HB.out.size))
      have c7 := cell_below c7 (HB.out.trans (hbr.mono HB.out.size))
      have HPair : Hid (clI (cutsW L q (k + 1)) = clI (cutsW L q k) ++ [.int .i64 (ge q k).fr, .int .i64 (ge q k).tt] ∧ (cutsW L q (k + 1)).length = (cutsW L q k).length + 2) := Lib.hid ⟨cutsW_pair L q k, by rw [hlen2.out, hlen2.out]; omega⟩
      have hll := hlen2.out k
      have hcl : (cutsW L q k).length ≤ 10000 := by omega
      have hsr := hbr.size
      clear HC HA HQ hll
      obtain ⟨x, hx⟩ : ∃ x, ge q k = x := ⟨_, rfl⟩
      rw [hx] at HPair c0 c1 c2 c3 c4 c5 c6 c7
      clear hx
      obtain ⟨CQ, hCQ⟩ : ∃ CQ, cutsW L q k = CQ := ⟨_, rfl⟩
      rw [hCQ] at HRow HPair hcl ⊢
      clear hCQ
      have hown := Lib.hid ((HRow.out.alloc (.cells #[.int .i64 x.n, .int .i64 x.tp, .int .i64 x.v, .int .i64 x.d, .int .i64 x.fr, .int .i64 x.tt, .int .i64 x.st, .int .i64 x.en] 126)).alloc (.cells #[.int .i64 x.fr, .int .i64 x.tt] 3))
      have hbq : Below wX.heap.size wX ((wr.alloc (.cells #[.int .i64 x.n, .int .i64 x.tp, .int .i64 x.v, .int .i64 x.d, .int .i64 x.fr, .int .i64 x.tt, .int .i64 x.st, .int .i64 x.en] 126)).alloc (.cells #[.int .i64 x.fr, .int .i64 x.tt] 3)) := (hbr.alloc hsr _).alloc (by simp; omega) _
      clear HRow
      go_wp2_with (first | (at_builtin; go_loud (refine wpList_append_lies _ rfl _ _ 22 rfl wX.heap.size 3 n0 _ 1 8 Tryz.underlying22 hi hz0 hz1 hz2 rfl (by decide) (.slice av CQ.length cv) CQ.length _ (by rfl) hown.out ⟨wr.heap.size + 1, 0, none⟩ 2 2 [.int .i64 x.fr, .int .i64 x.tt] (by rfl) (by rfl) ?d1 ?d2 (by decide) ?d3 ?d4 ?d5 _ rfl ?_)))
      case d1 =>
        refine World.news_of_block (cs := #[.int .i64 x.fr, .int .i64 x.tt]) (t := 3) (fr := (0, 0)) ?_
        have := heap_alloc_new (wr.alloc (.cells #[.int .i64 x.n, .int .i64 x.tp, .int .i64 x.v, .int .i64 x.d, .int .i64 x.fr, .int .i64 x.tt, .int .i64 x.st, .int .i64 x.en] 126)) (.cells #[.int .i64 x.fr, .int .i64 x.tt] 3)
        simpa using this
      case d2 => simp [Value.oneCell']
      case d3 => unfold maxLen; omega
      case d4 => omega
      case d5 => first | (simp; omega) | simp | omega
      intro g6 c6 w6 hown6 hgrow6 hat6 hlt6
      have hb6 : Below wX.heap.size wX w6 := hbq.grown hgrow6 (by first | (simp; omega) | simp | omega) (fun z hz => owns_blockI hown.out hz)
      have HRow6 := Lib.hid hown6
      clear hown6 hown hbq hgrow6 hat6 hlt6
      go_wp2_with fail
      go_roundw
      case rel => exact ⟨k + 1, by omega, by go_num, ⟨some ⟨g6, 0, none⟩, c6, by rw [HPair.out.2]⟩, Lib.hid (by rw [HPair.out.1, HPair.out.2]; exact HRow6.out), hb6⟩
      case measure => simp [intOf]; omega
    · obtain rfl : k = q.length := by omega
      have hbw := HB.out.trans (hbr.mono HB.out.size)
      have r0 := cell_below R0.out hbr
      have r1 := cell_below R1.out hbr
      have f0 := (hbr.frozen (p := ⟨w.heap.size + 1 + 1 + 1 + 1, 0, none⟩) (block_lt R0.out)).trans F0.out
      have f1 := (hbr.frozen (p := ⟨w.heap.size + 1 + 1 + 1 + 1, 1, none⟩) (block_lt R0.out)).trans F1.out
      have E9 := Lib.hid (cell_below E0.out hbr)
      have H9 := Lib.hid (cell_below H0.out hbr)
      have Y9 := Lib.hid (cell_below Y0.out hbr)
      have Y8 := Lib.hid (cell_below Y1.out hbr)
      have HFar : Hid (∀ v0 v1 b, b ≠ w.heap.size + 1 + 1 + 1 + 1 → ((wr.setCell ⟨w.heap.size + 1 + 1 + 1 + 1, 0, none⟩ v0).setCell ⟨w.heap.size + 1 + 1 + 1 + 1, 1, none⟩ v1).heap[b]? = wr.heap[b]?) := Lib.hid fun v0 v1 b hb => (Below.heap_setCell _ _ _ _ (by simpa using hb)).trans (Below.heap_setCell _ _ _ _ (by simpa using hb))
      have HBf : Hid (∀ v0 v1, Below w.heap.size w ((wr.setCell ⟨w.heap.size + 1 + 1 + 1 + 1, 0, none⟩ v0).setCell ⟨w.heap.size + 1 + 1 + 1 + 1, 1, none⟩ v1)) := Lib.hid fun v0 v1 => (hbw.setCell (p := ⟨w.heap.size + 1 + 1 + 1 + 1, 0, none⟩) (by simp; omega) _).setCell (p := ⟨w.heap.size + 1 + 1 + 1 + 1, 1, none⟩) (by simp; omega) _
      have hlc := hlen2.out q.length
      have HLc := Lib.hid hlc
      have hsr := hbr.size
      clear hbr hbw hlc HC HA
      go_wp2_with fail
      refine bodyPost_ret (v := .agg #[.func (.func 72) #[] #[.pointer (some ⟨w.heap.size + 1, 0, none⟩), .pointer (some ⟨w.heap.size + 1 + 1, 0, none⟩), .pointer (some ⟨w.heap.size + 1 + 1 + 1, 0, none⟩)], .slice av (cutsW L q q.length).length cv]) (by simp [results, Tryz.results30, go_sem, r0, r1]) rfl ?_
      have tr : ∀ v0 v1 b o v, b ≠ w.heap.size + 1 + 1 + 1 + 1 → wr.cell? ⟨b, o, none⟩ = some v → ((wr.setCell ⟨w.heap.size + 1 + 1 + 1 + 1, 0, none⟩ v0).setCell ⟨w.heap.size + 1 + 1 + 1 + 1, 1, none⟩ v1).cell? ⟨b, o, none⟩ = some v := fun v0 v1 b o v hb hc => (World.cell?_of_block (w := wr) (a := ⟨b, o, none⟩) (HFar.out v0 v1 b hb)).trans hc
      refine ⟨w.heap.size + 1, w.heap.size + 1 + 1, w.heap.size + 1 + 1 + 1, av, cv, tr _ _ _ _ _ (by omega) E9.out, tr _ _ _ _ _ (by omega) H9.out, tr _ _ _ _ _ (by omega) Y9.out, tr _ _ _ _ _ (by omega) Y8.out, rfl, ?_, HBf.out _ _⟩
      refine ⟨by rw [HLc.out]; omega, fun i hi => ?_, ?_⟩
      · have hm := gi_mem hi
        rcases (cutsW_mem q.length (Nat.le_refl _) _).1 hm with e | e | ⟨j, hj, e | e⟩
        · rw [e]; exact ⟨by omega, by omega⟩
        · rw [e]; have := HBL.out; unfold I64; omega
        · rw [e]; have := HQ.out j hj; unfold I64; omega
        · rw [e]; have := HQ.out j hj; unfold I64; omega
      · rcases HRow.out.2 with ⟨h1, h2⟩ | ⟨g2, c2, cur, h1, hg2, hb2, _⟩
        · exact absurd h2 (by rw [HLc.out]; omega)
        · obtain ⟨rfl, rfl⟩ : av = some ⟨g2, 0, none⟩ ∧ cv = c2 := by simpa using h1
          refine ⟨g2, 0, fun _ => rfl, fun i hi => ?_⟩
          rw [Nat.zero_add]
          refine tr _ _ _ _ _ (by omega) ?_
          rw [World.ownsRow.cellAt HRow.out i (by omega)]; exact clI_get _ hi
set_option maxRecDepth 100000 in
set_option maxHeartbeats 1000000 in
theorem Held_bad (L : Int) (a : Option Addr) (js : List Int) (ca : Nat) (aa : Option Addr) (l : List Sgn) (cl : Nat) (h dir tp : Int) (hV : lstE L js l [] ≠ 0) (w : World) (hI : IntsS w a js) (hA : SgnS w aa l) :
    Calls Tryz.prog 18 #[.agg #[.int .i64 L, .slice a js.length ca], .slice aa l.length cl, .int .i64 h, .int .i64 dir, .int .i64 tp] w fun e w' => e = .returned (.tuple #[.slice none 0 0, .int .i64 (lstE L js l [])]) ∧ Below w.heap.size w w' := by
  have H1 := Lib.hid (fun W (hW : Below w.heap.size w W) => listsError_r L a js ca aa l cl none [] 0 W (hI.below hW) (hA.below hW) (ed_nilR W))
  clear hI hA
  generalize lstE L js l [] = E at *
  have d1 : (E != 0) = true := by simp [hV]
  clear hV
  go_enter Tryz.func18, Tryz.ntmps18
  go_wp2_with fail
  obtain ⟨wB, hwB⟩ : ∃ wB, w.alloc (.cells #[.int .i64 L, .slice a js.length ca] 24) = wB := ⟨_, rfl⟩
  have hb : Below w.heap.size w wB := by rw [← hwB]; exact (Below.refl _ _).alloc (Nat.le_refl _) _
  have l0 : wB.cell? ⟨w.heap.size, 0, none⟩ = some (.int .i64 L) := by rw [← hwB]; simp [go_sem]
  have l1 : wB.cell? ⟨w.heap.size, 1, none⟩ = some (.slice a js.length ca) := by rw [← hwB]; simp [go_sem]
  rw [hwB]
  clear hwB
  go_wp2_with (go_at_call 27; refine (H1.out _ hb).mono ?_; rintro e w1 ⟨rfl, hb1⟩)
  go_ret2
  exact ⟨rfl, hb.trans (hb1.mono hb.size)⟩
set_option maxRecDepth 100000 in
set_option maxHeartbeats 1000000 in
theorem Held_arg (L : Int) (a : Option Addr) (js : List Int) (ca : Nat) (aa : Option Addr) (l : List Sgn) (cl : Nat) (h dir tp : Int) (hV : lstE L js l [] = 0) (hx : ((btw h 0 10000000) && (dirB dir) && (topB tp)) = false) (w : World) (hI : IntsS w a js) (hA : SgnS w aa l) :
    Calls Tryz.prog 18 #[.agg #[.int .i64 L, .slice a js.length ca], .slice aa l.length cl, .int .i64 h, .int .i64 dir, .int .i64 tp] w fun e w' => e = .returned (.tuple #[.slice none 0 0, .int .i64 2]) ∧ Below w.heap.size w w' := by
  have hLb := (lst_good hV).1
  have H1 := Lib.hid (fun W (hW : Below w.heap.size w W) => by
    have := listsError_r L a js ca aa l cl none [] 0 W (hI.below hW) (hA.below hW) (ed_nilR W)
    rw [hV] at this
    exact this)
  have K0 := Lib.hid (fun W => isHour_r h W)
  have K1 := Lib.hid (fun W => isDir_r dir W)
  have K2 := Lib.hid (fun W => isTopic_r tp W)
  clear hI hA hV hLb
  generalize btw h 0 10000000 = b0 at *
  generalize dirB dir = b1 at *
  generalize topB tp = b2 at *
  cases b0 with
  | false =>
    clear hx
    go_enter Tryz.func18, Tryz.ntmps18
    go_wp2_with fail
    obtain ⟨wB, hwB⟩ : ∃ wB, w.alloc (.cells #[.int .i64 L, .slice a js.length ca] 24) = wB := ⟨_, rfl⟩
    have hb : Below w.heap.size w wB := by rw [← hwB]; exact (Below.refl _ _).alloc (Nat.le_refl _) _
    have l0 : wB.cell? ⟨w.heap.size, 0, none⟩ = some (.int .i64 L) := by rw [← hwB]; simp [go_sem]
    have l1 : wB.cell? ⟨w.heap.size, 1, none⟩ = some (.slice a js.length ca) := by rw [← hwB]; simp [go_sem]
    rw [hwB]
    clear hwB
    go_wp2_with (first | (go_at_call 27; refine (H1.out _ hb).mono ?_; rintro e w1 ⟨rfl, hb1⟩; replace hb := hb.trans (hb1.mono hb.size); replace l0 := cell_below l0 hb1; replace l1 := cell_below l1 hb1; clear hb1) | (go_at_call 28; refine (K0.out _).mono ?_; rintro e w2 ⟨rfl, rfl⟩) | (go_at_call 45; refine (K1.out _).mono ?_; rintro e w2 ⟨rfl, rfl⟩) | (go_at_call 46; refine (K2.out _).mono ?_; rintro e w2 ⟨rfl, rfl⟩))
    go_ret2
    exact ⟨rfl, hb⟩
  | true =>
    cases b1 with
    | false =>
      clear hx
      go_enter Tryz.func18, Tryz.ntmps18
      go_wp2_with fail
      obtain ⟨wB, hwB⟩ : ∃ wB, w.alloc (.cells #[.int .i64 L, .slice a js.length ca] 24) = wB := ⟨_, rfl⟩
      have hb : Below w.heap.size w wB := by rw [← hwB]; exact (Below.refl _ _).alloc (Nat.le_refl _) _
      have l0 : wB.cell? ⟨w.heap.size, 0, none⟩ = some (.int .i64 L) := by rw [← hwB]; simp [go_sem]
      have l1 : wB.cell? ⟨w.heap.size, 1, none⟩ = some (.slice a js.length ca) := by rw [← hwB]; simp [go_sem]
      rw [hwB]
      clear hwB
      go_wp2_with (first | (go_at_call 27; refine (H1.out _ hb).mono ?_; rintro e w1 ⟨rfl, hb1⟩; replace hb := hb.trans (hb1.mono hb.size); replace l0 := cell_below l0 hb1; replace l1 := cell_below l1 hb1; clear hb1) | (go_at_call 28; refine (K0.out _).mono ?_; rintro e w2 ⟨rfl, rfl⟩) | (go_at_call 45; refine (K1.out _).mono ?_; rintro e w2 ⟨rfl, rfl⟩) | (go_at_call 46; refine (K2.out _).mono ?_; rintro e w2 ⟨rfl, rfl⟩))
      go_ret2
      exact ⟨rfl, hb⟩
    | true =>
      cases b2 with
      | false =>
        clear hx
        go_enter Tryz.func18, Tryz.ntmps18
        go_wp2_with fail
        obtain ⟨wB, hwB⟩ : ∃ wB, w.alloc (.cells #[.int .i64 L, .slice a js.length ca] 24) = wB := ⟨_, rfl⟩
        have hb : Below w.heap.size w wB := by rw [← hwB]; exact (Below.refl _ _).alloc (Nat.le_refl _) _
        have l0 : wB.cell? ⟨w.heap.size, 0, none⟩ = some (.int .i64 L) := by rw [← hwB]; simp [go_sem]
        have l1 : wB.cell? ⟨w.heap.size, 1, none⟩ = some (.slice a js.length ca) := by rw [← hwB]; simp [go_sem]
        rw [hwB]
        clear hwB
        go_wp2_with (first | (go_at_call 27; refine (H1.out _ hb).mono ?_; rintro e w1 ⟨rfl, hb1⟩; replace hb := hb.trans (hb1.mono hb.size); replace l0 := cell_below l0 hb1; replace l1 := cell_below l1 hb1; clear hb1) | (go_at_call 28; refine (K0.out _).mono ?_; rintro e w2 ⟨rfl, rfl⟩) | (go_at_call 45; refine (K1.out _).mono ?_; rintro e w2 ⟨rfl, rfl⟩) | (go_at_call 46; refine (K2.out _).mono ?_; rintro e w2 ⟨rfl, rfl⟩))
        go_ret2
        exact ⟨rfl, hb⟩
      | true =>
        cases hx
set_option maxRecDepth 100000 in
set_option maxHeartbeats 1000000 in
theorem Wanted_bad (L : Int) (a : Option Addr) (js : List Int) (ca : Nat) (ae : Option Addr) (q : List Edc) (cq : Nat) (h dir tp : Int) (hV : lstE L js [] q ≠ 0) (w : World) (hI : IntsS w a js) (hE : EdS w ae q) :
    Calls Tryz.prog 19 #[.agg #[.int .i64 L, .slice a js.length ca], .slice ae q.length cq, .int .i64 h, .int .i64 dir, .int .i64 tp] w fun e w' => e = .returned (.tuple #[.slice none 0 0, .int .i64 (lstE L js [] q)]) ∧ Below w.heap.size w w' := by
  have H1 := Lib.hid (fun W (hW : Below w.heap.size w W) => listsError_r L a js ca none [] 0 ae q cq W (hI.below hW) (sg_nil W) (hE.below hW))
  clear hI hE
  generalize lstE L js [] q = E at *
  have d1 : (E != 0) = true := by simp [hV]
  clear hV
  go_enter Tryz.func19, Tryz.ntmps19
  go_wp2_with fail
  obtain ⟨wB, hwB⟩ : ∃ wB, w.alloc (.cells #[.int .i64 L, .slice a js.length ca] 24) = wB := ⟨_, rfl⟩
  have hb : Below w.heap.size w wB := by rw [← hwB]; exact (Below.refl _ _).alloc (Nat.le_refl _) _
  have l0 : wB.cell? ⟨w.heap.size, 0, none⟩ = some (.int .i64 L) := by rw [← hwB]; simp [go_sem]
  have l1 : wB.cell? ⟨w.heap.size, 1, none⟩ = some (.slice a js.length ca) := by rw [← hwB]; simp [go_sem]
  rw [hwB]
  clear hwB
  go_wp2_with (go_at_call 27; refine (H1.out _ hb).mono ?_; rintro e w1 ⟨rfl, hb1⟩)
  go_ret2
  exact ⟨rfl, hb.trans (hb1.mono hb.size)⟩
set_option maxRecDepth 100000 in
set_option maxHeartbeats 1000000 in
theorem Wanted_arg (L : Int) (a : Option Addr) (js : List Int) (ca : Nat) (ae : Option Addr) (q : List Edc) (cq : Nat) (h dir tp : Int) (hV : lstE L js [] q = 0) (hx : ((btw h 0 10000000) && (dirB dir) && (topB tp)) = false) (w : World) (hI : IntsS w a js) (hE : EdS w ae q) :
    Calls Tryz.prog 19 #[.agg #[.int .i64 L, .slice a js.length ca], .slice ae q.length cq, .int .i64 h, .int .i64 dir, .int .i64 tp] w fun e w' => e = .returned (.tuple #[.slice none 0 0, .int .i64 2]) ∧ Below w.heap.size w w' := by
  have hLb := (lst_good hV).1
  have H1 := Lib.hid (fun W (hW : Below w.heap.size w W) => by
    have := listsError_r L a js ca none [] 0 ae q cq W (hI.below hW) (sg_nil W) (hE.below hW)
    rw [hV] at this
    exact this)
  have K0 := Lib.hid (fun W => isHour_r h W)
  have K1 := Lib.hid (fun W => isDir_r dir W)
  have K2 := Lib.hid (fun W => isTopic_r tp W)
  clear hI hE hV hLb
  generalize btw h 0 10000000 = b0 at *
  generalize dirB dir = b1 at *
  generalize topB tp = b2 at *
  cases b0 with
  | false =>
    clear hx
    go_enter Tryz.func19, Tryz.ntmps19
    go_wp2_with fail
    obtain ⟨wB, hwB⟩ : ∃ wB, w.alloc (.cells #[.int .i64 L, .slice a js.length ca] 24) = wB := ⟨_, rfl⟩
    have hb : Below w.heap.size w wB := by rw [← hwB]; exact (Below.refl _ _).alloc (Nat.le_refl _) _
    have l0 : wB.cell? ⟨w.heap.size, 0, none⟩ = some (.int .i64 L) := by rw [← hwB]; simp [go_sem]
    have l1 : wB.cell? ⟨w.heap.size, 1, none⟩ = some (.slice a js.length ca) := by rw [← hwB]; simp [go_sem]
    rw [hwB]
    clear hwB
    go_wp2_with (first | (go_at_call 27; refine (H1.out _ hb).mono ?_; rintro e w1 ⟨rfl, hb1⟩; replace hb := hb.trans (hb1.mono hb.size); replace l0 := cell_below l0 hb1; replace l1 := cell_below l1 hb1; clear hb1) | (go_at_call 28; refine (K0.out _).mono ?_; rintro e w2 ⟨rfl, rfl⟩) | (go_at_call 45; refine (K1.out _).mono ?_; rintro e w2 ⟨rfl, rfl⟩) | (go_at_call 46; refine (K2.out _).mono ?_; rintro e w2 ⟨rfl, rfl⟩))
    go_ret2
    exact ⟨rfl, hb⟩
  | true =>
    cases b1 with
    | false =>
      clear hx
      go_enter Tryz.func19, Tryz.ntmps19
      go_wp2_with fail
      obtain ⟨wB, hwB⟩ : ∃ wB, w.alloc (.cells #[.int .i64 L, .slice a js.length ca] 24) = wB := ⟨_, rfl⟩
      have hb : Below w.heap.size w wB := by rw [← hwB]; exact (Below.refl _ _).alloc (Nat.le_refl _) _
      have l0 : wB.cell? ⟨w.heap.size, 0, none⟩ = some (.int .i64 L) := by rw [← hwB]; simp [go_sem]
      have l1 : wB.cell? ⟨w.heap.size, 1, none⟩ = some (.slice a js.length ca) := by rw [← hwB]; simp [go_sem]
      rw [hwB]
      clear hwB
      go_wp2_with (first | (go_at_call 27; refine (H1.out _ hb).mono ?_; rintro e w1 ⟨rfl, hb1⟩; replace hb := hb.trans (hb1.mono hb.size); replace l0 := cell_below l0 hb1; replace l1 := cell_below l1 hb1; clear hb1) | (go_at_call 28; refine (K0.out _).mono ?_; rintro e w2 ⟨rfl, rfl⟩) | (go_at_call 45; refine (K1.out _).mono ?_; rintro e w2 ⟨rfl, rfl⟩) | (go_at_call 46; refine (K2.out _).mono ?_; rintro e w2 ⟨rfl, rfl⟩))
      go_ret2
      exact ⟨rfl, hb⟩
    | true =>
      cases b2 with
      | false =>
        clear hx
        go_enter Tryz.func19, Tryz.ntmps19
        go_wp2_with fail
        obtain ⟨wB, hwB⟩ : ∃ wB, w.alloc (.cells #[.int .i64 L, .slice a js.length ca] 24) = wB := ⟨_, rfl⟩
        have hb : Below w.heap.size w wB := by rw [← hwB]; exact (Below.refl _ _).alloc (Nat.le_refl _) _
        have l0 : wB.cell? ⟨w.heap.size, 0, none⟩ = some (.int .i64 L) := by rw [← hwB]; simp [go_sem]
        have l1 : wB.cell? ⟨w.heap.size, 1, none⟩ = some (.slice a js.length ca) := by rw [← hwB]; simp [go_sem]
        rw [hwB]
        clear hwB
        go_wp2_with (first | (go_at_call 27; refine (H1.out _ hb).mono ?_; rintro e w1 ⟨rfl, hb1⟩; replace hb := hb.trans (hb1.mono hb.size); replace l0 := cell_below l0 hb1; replace l1 := cell_below l1 hb1; clear hb1) | (go_at_call 28; refine (K0.out _).mono ?_; rintro e w2 ⟨rfl, rfl⟩) | (go_at_call 45; refine (K1.out _).mono ?_; rintro e w2 ⟨rfl, rfl⟩) | (go_at_call 46; refine (K2.out _).mono ?_; rintro e w2 ⟨rfl, rfl⟩))
        go_ret2
        exact ⟨rfl, hb⟩
      | true =>
        cases hx
set_option maxRecDepth 100000 in
set_option maxHeartbeats 1000000 in
theorem Wanted_good (L : Int) (a : Option Addr) (js : List Int) (ca : Nat) (ae : Option Addr) (q : List Edc) (cq : Nat) (h dir tp : Int) (hV : lstE L js [] q = 0) (h0 : btw h 0 10000000 = true) (h1 : dirB dir = true) (h2 : topB tp = true) (w : World) (hI : IntsS w a js) (hE : EdS w ae q) :
    Calls Tryz.prog 19 #[.agg #[.int .i64 L, .slice a js.length ca], .slice ae q.length cq, .int .i64 h, .int .i64 dir, .int .i64 tp] w fun e w' => ∃ b c, e = .returned (.tuple #[.slice b (wantS L q h dir tp).length c, .int .i64 0]) ∧ TriS w' b (wantS L q h dir tp) ∧ Below w.heap.size w w' := by
  obtain ⟨hLb, -, -, -⟩ := lst_good hV
  have hln := lst_line hV
  have hqn := edcs_len (lst_edcs hV)
  have hqb : ∀ j, j < q.length → -1000000 ≤ (ge q j).fr ∧ (ge q j).fr ≤ 1000000 ∧ -1000000 ≤ (ge q j).tt ∧ (ge q j).tt ≤ 1000000 := fun j hj => by
    have := edc_bd (edc_in (lst_edcs hV) j hj)
    omega
  have H1 := Lib.hid (fun W (hW : Below w.heap.size w W) => by
    have := listsError_r L a js ca none [] 0 ae q cq W (hI.below hW) (sg_nil W) (hE.below hW)
    rw [hV] at this
    exact this)
  have K0 := Lib.hid (fun W => h0 ▸ isHour_r h W)
  have K1 := Lib.hid (fun W => h1 ▸ isDir_r dir W)
  have K2 := Lib.hid (fun W => h2 ▸ isTopic_r tp W)
  have HW := Lib.hid (fun W (hW : Below w.heap.size w W) => wanted_r L a js.length ca ae q cq h tp dir (by omega) hqb (by omega) W (hE.below hW))
  have HE := Lib.hid (fun W (hW : Below w.heap.size w W) => hE.below hW)
  have HEq := Lib.hid (wantM_eq (h := h) (dir := dir) (t := tp) hV)
  have HLn : Hid ((cutsW L q q.length).length ≤ 1000000) := Lib.hid (by rw [cutsW_len]; omega)
  have HZ : Hid ((wantS L q h dir tp).length ≤ 9223372036854775807) := Lib.hid (by
    have h1 : (heldL (prtK (ascL (cutsW L q q.length)) (fun m => mustV q h tp dir m) (ascL (cutsW L q q.length)).length)).length ≤ (cutsW L q q.length).length := heldL_len (Nat.le_trans (prtK_len _ _ _) (asc_len _))
    rw [HEq.out] at h1
    have := HLn.out
    omega)
  clear hI hE hV h0 h1 h2 hLb hqb hln hqn
  go_enter Tryz.func19, Tryz.ntmps19
  go_wp2_with fail
  obtain ⟨wB, hwB⟩ : ∃ wB, w.alloc (.cells #[.int .i64 L, .slice a js.length ca] 24) = wB := ⟨_, rfl⟩
  have hb : Below w.heap.size w wB := by rw [← hwB]; exact (Below.refl _ _).alloc (Nat.le_refl _) _
  have l0 : wB.cell? ⟨w.heap.size, 0, none⟩ = some (.int .i64 L) := by rw [← hwB]; simp [go_sem]
  have l1 : wB.cell? ⟨w.heap.size, 1, none⟩ = some (.slice a js.length ca) := by rw [← hwB]; simp [go_sem]
  rw [hwB]
  clear hwB
  go_wp2_with (first | (go_at_call 27; refine (H1.out _ hb).mono ?_; rintro e w1 ⟨rfl, hb1⟩; replace hb := hb.trans (hb1.mono hb.size); replace l0 := cell_below l0 hb1; replace l1 := cell_below l1 hb1; clear hb1) | (go_at_call 28; refine (K0.out _).mono ?_; rintro e w2 ⟨rfl, rfl⟩) | (go_at_call 45; refine (K1.out _).mono ?_; rintro e w2 ⟨rfl, rfl⟩) | (go_at_call 46; refine (K2.out _).mono ?_; rintro e w2 ⟨rfl, rfl⟩) | (go_at_call 30; refine (HW.out _ hb).mono ?_; rintro e w4 ⟨eb, hb9, wb, aq, cq2, g0, g1, g2, g3, rfl, hAq, hb4⟩; have hbz := hb.trans (hb4.mono hb.size); have G0 := Lib.hid g0; have G1 := Lib.hid g1; have G2 := Lib.hid g2; have G3 := Lib.hid g3; have HAq := Lib.hid hAq; have HBZ := Lib.hid hbz; clear g0 g1 g2 g3 hAq hb4 hbz) | (go_at_call 47; refine (heldW_r aq (cutsW L q q.length) cq2 #[.pointer (some ⟨eb, 0, none⟩), .pointer (some ⟨hb9, 0, none⟩), .pointer (some ⟨wb, 0, none⟩)] (fun m => mustV q h tp dir m) w4 HAq.out (cutsW_ne L q q.length) HLn.out (fun m W hm2 hW => wanted1_r ae q cq eb hb9 wb h tp dir m W (HE.out W (HBZ.out.trans (hW.mono HBZ.out.size))) (cell_below G0.out hW) (cell_below G1.out hW) (cell_below G2.out hW) (cell_below G3.out hW))).mono ?_; rintro e w3 ⟨bb, cc, rfl, hown, hb3⟩; have HOW := Lib.hid hown; clear hown))
  go_ret2
  rw [HEq.out] at HOW
  exact ⟨bb, cc, by rw [HEq.out]; rfl, tri_own HOW.out HZ.out, HBZ.out.trans (hb3.mono HBZ.out.size)⟩
/-- Stretches with an error. -/
def TriA (M : List Tri) (E : Int) (w : World) (e : Ending) (w' : World) : Prop := ∃ b c, e = .returned (.tuple #[.slice b M.length c, .int .i64 E]) ∧ TriS w' b M ∧ Below w.heap.size w w'
theorem Held_goodS (L : Int) (a : Option Addr) (js : List Int) (ca : Nat) (aa : Option Addr) (l : List Sgn) (cl : Nat) (h dir tp : Int) (hV : lstE L js l [] = 0) (h0 : btw h 0 10000000 = true) (h1 : dirB dir = true) (h2 : topB tp = true) (w : World) (hI : IntsS w a js) (hA : SgnS w aa l) :
    Calls Tryz.prog 18 #[.agg #[.int .i64 L, .slice a js.length ca], .slice aa l.length cl, .int .i64 h, .int .i64 dir, .int .i64 tp] w (TriA (heldS L js l h dir tp) 0 w) := by
  refine (Held_good L a js ca aa l cl h dir tp hV h0 h1 h2 w hI hA).mono ?_
  rintro e w' ⟨row, b, c, hRL, rfl, hown, hb⟩
  have hlen : (hldM L dir tp row).length ≤ 9223372036854775807 := by
    have e1 : (hldM L dir tp row).length ≤ (cutsK L dir row row.length).length := heldL_len (Nat.le_trans (prtK_len _ _ _) (asc_len _))
    obtain ⟨ad, cp, l1, hp, -, rfl⟩ := hRL
    have e2 := hp.length_eq
    have e3 := rowK_len L js dir h l ad cp l.length
    have e4 := (lst_good hV).2.2.2
    rw [cutsK_len, List.length_map, finP_len] at e1
    omega
  have htp := top_or h2
  rw [hldM_eq hV h1 (by omega) hRL] at hown hlen ⊢
  exact ⟨b, c, rfl, tri_own hown hlen, hb⟩
theorem Held_any (L : Int) (a : Option Addr) (js : List Int) (ca : Nat) (aa : Option Addr) (l : List Sgn) (cl : Nat) (h dir tp : Int) (b9 r : Bool) (hr : r = (btw h 0 10000000 && dirB dir && topB tp)) (w : World) (hI : IntsS w a js) (hA : SgnS w aa l) :
    Calls Tryz.prog 18 #[.agg #[.int .i64 L, .slice a js.length ca], .slice aa l.length cl, .int .i64 h, .int .i64 dir, .int .i64 tp] w (TriA (if whyK (lineB L js) true (sgnsB L js l) false b9 r = 0 then heldS L js l h dir tp else []) (whyK (lineB L js) true (sgnsB L js l) false b9 r) w) := by
  obtain ⟨k1, k2⟩ := lst_s L js l true b9 r
  by_cases hV : lstE L js l [] = 0
  · rw [k2 hV]
    cases hx : r with
    | false =>
      rw [if_pos rfl, if_neg (by decide)]
      refine (Held_arg L a js ca aa l cl h dir tp hV (by rw [← hr]; exact hx) w hI hA).mono ?_
      rintro e w' ⟨rfl, hb⟩
      exact ⟨none, 0, rfl, tri_nil _, hb⟩
    | true =>
      rw [if_neg (show ¬ (true = false) by decide), if_pos rfl]
      rw [hx] at hr
      have hr := hr.symm
      simp only [Bool.and_eq_true] at hr
      exact Held_goodS L a js ca aa l cl h dir tp hV hr.1.1 hr.1.2 hr.2 w hI hA
  · rw [k1 hV, if_neg hV]
    refine (Held_bad L a js ca aa l cl h dir tp hV w hI hA).mono ?_
    rintro e w' ⟨rfl, hb⟩
    exact ⟨none, 0, rfl, tri_nil _, hb⟩
theorem Wanted_any (L : Int) (a : Option Addr) (js : List Int) (ca : Nat) (ae : Option Addr) (q : List Edc) (cq : Nat) (h dir tp : Int) (b9 r : Bool) (hr : r = (btw h 0 10000000 && dirB dir && topB tp)) (w : World) (hI : IntsS w a js) (hE : EdS w ae q) :
    Calls Tryz.prog 19 #[.agg #[.int .i64 L, .slice a js.length ca], .slice ae q.length cq, .int .i64 h, .int .i64 dir, .int .i64 tp] w (TriA (if whyK (lineB L js) false b9 true (edcsB L js q) r = 0 then wantS L q h dir tp else []) (whyK (lineB L js) false b9 true (edcsB L js q) r) w) := by
  obtain ⟨k1, k2⟩ := lst_e L js q b9 r
  by_cases hV : lstE L js [] q = 0
  · rw [k2 hV]
    cases hx : r with
    | false =>
      rw [if_pos rfl, if_neg (by decide)]
      refine (Wanted_arg L a js ca ae q cq h dir tp hV (by rw [← hr]; exact hx) w hI hE).mono ?_
      rintro e w' ⟨rfl, hb⟩
      exact ⟨none, 0, rfl, tri_nil _, hb⟩
    | true =>
      rw [if_neg (show ¬ (true = false) by decide), if_pos rfl]
      rw [hx] at hr
      have hr := hr.symm
      simp only [Bool.and_eq_true] at hr
      exact Wanted_good L a js ca ae q cq h dir tp hV hr.1.1 hr.1.2 hr.2 w hI hE
  · rw [k1 hV, if_neg hV]
    refine (Wanted_bad L a js ca ae q cq h dir tp hV w hI hE).mono ?_
    rintro e w' ⟨rfl, hb⟩
    exact ⟨none, 0, rfl, tri_nil _, hb⟩
end Go.Proofs.YtlpdjinhkmgbgaaGreatDoor

namespace Go.Proofs.YtlpdjinhkmgbgaaGreatDoor
set_option linter.unusedVariables false
set_option linter.unusedSimpArgs false
open Go.RowKit

/-- One sign more in a row. -/
def stepI (L dir h : Int) (r : List Sgn) (x : Sgn) : List Sgn :=
  if selB dir h x = true then r.take (plcS L dir x r r.length) ++ x :: r.drop (plcS L dir x r r.length) else r
theorem insR_step (L dir h : Int) (l : List Sgn) (k : Nat) : insR L dir h l (k + 1) = stepI L dir h (insR L dir h l k) (gs l k) := rfl
theorem insR_congr {L dir h : Int} {l l' : List Sgn} : ∀ k, (∀ j, j < k → gs l j = gs l' j) → insR L dir h l k = insR L dir h l' k
  | 0, _ => rfl
  | k + 1, e => by
    rw [insR_step, insR_step, insR_congr k (fun j hj => e j (by omega)), e k (by omega)]
def insA (L dir h : Int) (l : List Sgn) : List Sgn := insR L dir h l l.length
theorem gs_left {l t : List Sgn} {j : Nat} (h : j < l.length) : gs (l ++ t) j = gs l j := by
  rw [gs_at _ (by simp; omega), gs_at _ h, List.getElem_append_left h]
theorem gs_snoc (l : List Sgn) (x : Sgn) : gs (l ++ [x]) l.length = x := by
  rw [gs_at _ (by simp)]
  simp
theorem insA_snoc (L dir h : Int) (l : List Sgn) (x : Sgn) : insA L dir h (l ++ [x]) = stepI L dir h (insA L dir h l) x := by
  unfold insA
  rw [List.length_append, List.length_singleton, insR_step, gs_snoc, insR_congr l.length fun j hj => gs_left hj]
theorem selR_congr {dir h : Int} {l l' : List Sgn} : ∀ k, (∀ j, j < k → gs l j = gs l' j) → selR dir h l k = selR dir h l' k
  | 0, _ => rfl
  | k + 1, e => by rw [selR, selR, selR_congr k (fun j hj => e j (by omega)), e k (by omega)]
theorem take_snoc (l : List Sgn) {k : Nat} (hk : k < l.length) : l.take (k + 1) = l.take k ++ [gs l k] := by
  rw [List.take_succ_eq_append_getElem hk, gs_at _ hk]
theorem selR_take (dir h : Int) (l : List Sgn) : ∀ k, k ≤ l.length → selR dir h l k = (l.take k).filter (fun x => selB dir h x)
  | 0, _ => rfl
  | k + 1, hk => by
    rw [selR, selR_take dir h l k (by omega), take_snoc l (by omega), List.filter_append]
    by_cases hx : selB dir h (gs l k) = true
    · rw [if_pos hx]; simp [hx]
    · rw [if_neg hx]; simp [hx]
theorem selR_filter (dir h : Int) (l : List Sgn) : selR dir h l l.length = l.filter (fun x => selB dir h x) := by
  rw [selR_take dir h l l.length (Nat.le_refl _), List.take_length]
theorem insA_perm (L dir h : Int) (l : List Sgn) : (insA L dir h l).Perm (l.filter (fun x => selB dir h x)) := by
  rw [← selR_filter]
  exact insR_perm L dir h l l.length
theorem sel_spk {dir h : Int} {x : Sgn} (hx : spkB x h = false) : selB dir h x = false := by unfold selB; rw [hx, Bool.and_false]
/-- Valid signs, as a list. -/
theorem sgns_iff (L : Int) (js : List Int) (l : List Sgn) : sgnsB L js l = true ↔ lineB L js = true ∧ l.length ≤ 100 ∧ (∀ x, x ∈ l → (btw x.n 1 1000000000 = true ∧ sgnB L x = true)) ∧ (l.map (·.n)).Nodup := by
  have hat : ∀ x, x ∈ l → ∃ k, k < l.length ∧ gs l k = x := fun x hx => by
    obtain ⟨k, hk, e⟩ := List.getElem_of_mem hx
    exact ⟨k, hk, by rw [gs_at _ hk, e]⟩
  constructor
  · intro h
    refine ⟨sgns_line h, ?_, fun x hx => ?_, ?_⟩
    · by_cases h9 : 100 < l.length
      · rw [s_bad9 h9] at h; cases h
      · omega
    · obtain ⟨k, hk, rfl⟩ := hat x hx
      constructor
      · cases e : btw (gs l k).n 1 1000000000 with
        | true => rfl
        | false => rw [s_bad1 hk e] at h; cases h
      · cases e : sgnB L (gs l k) with
        | true => rfl
        | false => rw [s_bad2 hk e] at h; cases h
    · rw [List.nodup_iff_pairwise_ne, List.pairwise_iff_getElem]
      intro i j hi hj hij e
      rw [List.getElem_map, List.getElem_map] at e
      have hi : i < l.length := by simpa using hi
      have hj : j < l.length := by simpa using hj
      rw [← gs_at _ hi, ← gs_at _ hj] at e
      rw [s_bad3 hj hij e] at h; cases h
  · rintro ⟨h0, h9, h, hn⟩
    refine s_end h0 h9 fun k hk => ?_
    have hm : gs l k ∈ l := by rw [gs_at _ hk]; exact List.getElem_mem hk
    refine ⟨(h _ hm).1, (h _ hm).2, fun j hj e => ?_⟩
    rw [List.nodup_iff_pairwise_ne, List.pairwise_iff_getElem] at hn
    refine hn j k (by simpa using (by omega : j < l.length)) (by simpa using hk) hj ?_
    rw [List.getElem_map, List.getElem_map, ← gs_at _ (by omega : j < l.length), ← gs_at _ hk]
    exact e
theorem lst_iff (L : Int) (js : List Int) (l : List Sgn) : lstE L js l [] = 0 ↔ sgnsB L js l = true := by
  constructor
  · intro h; exact lst_sgns h
  · intro h
    unfold lstE
    rw [sgns_line h, h, edcs_nil, sgns_line h]
    rfl
theorem sgns_sub {L : Int} {js : List Int} {l t : List Sgn} (h : sgnsB L js l = true) (hs : t.Sublist l) : sgnsB L js t = true := by
  rw [sgns_iff] at h ⊢
  exact ⟨h.1, Nat.le_trans hs.length_le h.2.1, fun x hx => h.2.2.1 x (hs.mem hx), h.2.2.2.sublist (hs.map _)⟩
/-- The signs that speak, of the first k. -/
def spkL (h : Int) (l : List Sgn) : Nat → List Sgn
  | 0 => []
  | k + 1 => if spkB (gs l k) h = true then spkL h l k ++ [gs l k] else spkL h l k
theorem spk_ins (L dir h : Int) (l : List Sgn) : ∀ k, insA L dir h (spkL h l k) = insR L dir h l k
  | 0 => rfl
  | k + 1 => by
    have ih := spk_ins L dir h l k
    rw [spkL, insR_step, ← ih]
    by_cases hx : spkB (gs l k) h = true
    · rw [if_pos hx, insA_snoc]
    · rw [if_neg hx, stepI, sel_spk (by simpa using hx), if_neg (by decide)]
theorem spk_sub (h : Int) (l : List Sgn) : ∀ k, k ≤ l.length → (spkL h l k).Sublist (l.take k)
  | 0, _ => List.Sublist.slnil
  | k + 1, hk => by
    have ih := spk_sub h l k (by omega)
    rw [spkL, take_snoc l (by omega)]
    split
    · exact ih.append (List.Sublist.refl _)
    · exact ih.trans (List.sublist_append_left _ _)
/-- A sign that a cover silences over all its hours. -/
def cvr (x : Sgn) : Sgn := { x with cv := [(x.up, x.dn)] }
theorem cvr_spk (x : Sgn) (h : Int) : spkB (cvr x) h = false := by
  unfold spkB cvr
  simp only [List.length_singleton, anyK, covH, gp, List.getD_cons_zero, Bool.or_false]
  by_cases h1 : x.up ≤ h <;> by_cases h2 : h < x.dn <;> simp [h1, h2]
/-- All of the first k but number z; and all, number z covered. -/
def othL (z : Nat) (l : List Sgn) : Nat → List Sgn
  | 0 => []
  | k + 1 => if k = z then othL z l k else othL z l k ++ [gs l k]
def covL (z : Nat) (l : List Sgn) : Nat → List Sgn
  | 0 => []
  | k + 1 => covL z l k ++ [if k = z then cvr (gs l k) else gs l k]
theorem oth_cov (L dir h : Int) (z : Nat) (l : List Sgn) : ∀ k, insA L dir h (othL z l k) = insA L dir h (covL z l k)
  | 0 => rfl
  | k + 1 => by
    have ih := oth_cov L dir h z l k
    rw [othL, covL, insA_snoc, ← ih]
    by_cases hz : k = z
    · rw [if_pos hz, if_pos hz, stepI, sel_spk (cvr_spk _ _), if_neg (by decide)]
    · rw [if_neg hz, if_neg hz, insA_snoc]
theorem oth_sub (z : Nat) (l : List Sgn) : ∀ k, k ≤ l.length → (othL z l k).Sublist (l.take k)
  | 0, _ => List.Sublist.slnil
  | k + 1, hk => by
    have ih := oth_sub z l k (by omega)
    rw [othL, take_snoc l (by omega)]
    split
    · exact ih.trans (List.sublist_append_left _ _)
    · exact ih.append (List.Sublist.refl _)
theorem cov_n (z : Nat) (l : List Sgn) : ∀ k, k ≤ l.length → (covL z l k).map (·.n) = (l.take k).map (·.n)
  | 0, _ => rfl
  | k + 1, hk => by
    have ih := cov_n z l k (by omega)
    rw [covL, take_snoc l (by omega), List.map_append, List.map_append, ih]
    congr 1
    simp only [List.map_cons, List.map_nil]
    split <;> rfl
theorem cov_mem {z : Nat} {l : List Sgn} {x : Sgn} : ∀ {k}, k ≤ l.length → x ∈ covL z l k → ∃ y, y ∈ l ∧ (x = y ∨ x = cvr y)
  | 0, _, hx => by simp [covL] at hx
  | k + 1, hk, hx => by
    rw [covL, List.mem_append, List.mem_singleton] at hx
    rcases hx with hx | hx
    · exact cov_mem (by omega) hx
    · refine ⟨gs l k, by rw [gs_at _ (by omega)]; exact List.getElem_mem _, ?_⟩
      split at hx
      · exact .inr hx
      · exact .inl hx
theorem cvr_good {L : Int} {x : Sgn} (h : sgnB L x = true) : sgnB L (cvr x) = true := by
  unfold sgnB at *
  simp only [Bool.and_eq_true] at h ⊢
  refine ⟨⟨h.1.1, rfl⟩, ?_⟩
  have ht := h.1.1.2
  unfold covB cvr
  simp only [List.length_singleton, anyK, gp, List.getD_cons_zero, Bool.or_false]
  rw [ht]; rfl
theorem cov_good {L : Int} {js : List Int} {z : Nat} {l : List Sgn} (h : sgnsB L js l = true) : sgnsB L js (covL z l l.length) = true := by
  rw [sgns_iff] at h ⊢
  have hn := cov_n z l l.length (Nat.le_refl _)
  rw [List.take_length] at hn
  refine ⟨h.1, ?_, fun x hx => ?_, by rw [hn]; exact h.2.2.2⟩
  · have := congrArg List.length hn
    simp only [List.length_map] at this
    omega
  · obtain ⟨y, hy, e | e⟩ := cov_mem (Nat.le_refl _) hx
    · rw [e]; exact h.2.2.1 y hy
    · rw [e]; exact ⟨(h.2.2.1 y hy).1, cvr_good (h.2.2.1 y hy).2⟩
/-- All but plates of the first k; and these but warnings and repeats. -/
def allL (l : List Sgn) : Nat → List Sgn
  | 0 => []
  | k + 1 => if (gs l k).k = 7 then allL l k else allL l k ++ [gs l k]
def keepB (x : Sgn) : Bool := !(x.k == 8) && !(x.k == 6)
def somL (l : List Sgn) : Nat → List Sgn
  | 0 => []
  | k + 1 => if (gs l k).k = 7 then somL l k else if (gs l k).k = 8 then somL l k else if (gs l k).k = 6 then somL l k else somL l k ++ [gs l k]
theorem som_filter (l : List Sgn) : ∀ k, somL l k = (allL l k).filter keepB
  | 0 => rfl
  | k + 1 => by
    have ih := som_filter l k
    rw [somL, allL]
    split
    · exact ih
    · rw [List.filter_append, ← ih]
      split
      next h => simp [keepB, h]
      next h8 =>
        split
        next h => simp [keepB, h]
        next h6 =>
          have : keepB (gs l k) = true := by unfold keepB; simp [h8, h6]
          rw [List.filter_cons_of_pos this]; rfl
theorem all_sub (l : List Sgn) : ∀ k, k ≤ l.length → (allL l k).Sublist (l.take k)
  | 0, _ => List.Sublist.slnil
  | k + 1, hk => by
    have ih := all_sub l k (by omega)
    rw [allL, take_snoc l (by omega)]
    split
    · exact ih.trans (List.sublist_append_left _ _)
    · exact ih.append (List.Sublist.refl _)
theorem all_kind {l : List Sgn} {x : Sgn} : ∀ {k}, x ∈ allL l k → x.k ≠ 7
  | 0, hx => by simp [allL] at hx
  | k + 1, hx => by
    rw [allL] at hx
    split at hx
    · exact all_kind hx
    next h7 =>
      rw [List.mem_append, List.mem_singleton] at hx
      rcases hx with hx | hx
      · exact all_kind hx
      · rw [hx]; exact h7
theorem insA_sorted {L dir h : Int} {l : List Sgn} (hn : (l.map (·.n)).Nodup) : (insA L dir h l).Pairwise (ahS L dir) := by
  refine insR_sorted (fun i j hij hj e => ?_) _ (Nat.le_refl _)
  rw [List.nodup_iff_pairwise_ne, List.pairwise_iff_getElem] at hn
  refine hn i j (by simpa using (by omega : i < l.length)) (by simpa using hj) hij ?_
  rw [List.getElem_map, List.getElem_map, ← gs_at _ (by omega : i < l.length), ← gs_at _ hj]
  exact e
theorem insA_filter {L dir h : Int} {l : List Sgn} (p : Sgn → Bool) (hn : (l.map (·.n)).Nodup) : insA L dir h (l.filter p) = (insA L dir h l).filter p := by
  refine ord_unique (insA_sorted (hn.sublist (List.filter_sublist.map _))) ((insA_sorted hn).sublist List.filter_sublist) ?_
  refine (insA_perm L dir h _).trans ?_
  refine List.Perm.trans ?_ ((insA_perm L dir h l).filter p).symm
  rw [List.filter_filter, List.filter_filter]
  refine List.Perm.of_eq (List.filter_congr fun x _ => Bool.and_comm _ _)
theorem keep_top {x : Sgn} (t : Int) (h : keepB x = false) : endB x.k t = false ∧ topK x.k = 0 := by
  unfold keepB at h
  have : x.k = 8 ∨ x.k = 6 := by
    by_cases h8 : x.k = 8
    · exact .inl h8
    · by_cases h6 : x.k = 6
      · exact .inr h6
      · simp [h8, h6] at h
  rcases this with e | e <;> rw [e] <;> exact ⟨rfl, rfl⟩
theorem plt_no {L dir k : Int} {s : Sgn} {r : List Sgn} (h : ∀ x, x ∈ r → x.k ≠ 7) : pltB L dir k s r.head? = false := by
  cases r with
  | nil => rfl
  | cons y r =>
    have := h y (by simp)
    simp [pltB, this]
theorem hS_far {L : Int} {js : List Int} {dir t k : Int} : ∀ (r : List Sgn) (v : Int), (∀ x, x ∈ r → k < dstK L dir x.c) → hS L js dir t k r v = v
  | [], _, _ => rfl
  | x :: r, v, h => by rw [hS, if_pos (h x (by simp))]
theorem hS_keep {L : Int} {js : List Int} {dir t k : Int} (ht : t ≠ 0) : ∀ (r : List Sgn) (v : Int), (∀ x, x ∈ r → x.k ≠ 7) → r.Pairwise (ahS L dir) → hS L js dir t k (r.filter keepB) v = hS L js dir t k r v
  | [], _, _, _ => rfl
  | x :: r, v, h7, hp => by
    have hp2 := List.pairwise_cons.1 hp
    have ih := fun v => hS_keep (js := js) (k := k) ht r v (fun y hy => h7 y (by simp [hy])) hp2.2
    have hd : ∀ y, y ∈ r → dstK L dir x.c ≤ dstK L dir y.c := fun y hy => by
      have := hp2.1 y hy
      unfold ahS at this
      omega
    by_cases hk : k < dstK L dir x.c
    · rw [hS, if_pos hk]
      refine hS_far _ _ fun y hy => ?_
      have hy := (List.mem_filter.1 hy).1
      rw [List.mem_cons] at hy
      rcases hy with rfl | hy
      · exact hk
      · have := hd y hy; omega
    · by_cases hx : keepB x = true
      · rw [List.filter_cons_of_pos hx, hS, hS, if_neg hk, if_neg hk, ih]
        congr 1
        unfold stpS shutB
        rw [plt_no (r := r) (fun y hy => h7 y (List.mem_cons_of_mem _ hy)), plt_no (r := r.filter keepB) (fun y hy => h7 y (List.mem_cons_of_mem _ (List.mem_filter.1 hy).1))]
      · have hx : keepB x = false := by simpa using hx
        obtain ⟨h1, h2⟩ := keep_top t hx
        rw [List.filter_cons_of_neg (by rw [hx]; decide), ih, hS, if_neg hk]
        congr 1
        unfold stpS
        rw [h1, h2, if_neg (by decide), if_neg (Ne.symm ht)]
theorem hld_som {L : Int} {js : List Int} {l : List Sgn} {h dir t m : Int} (ht : t ≠ 0) (hs : sgnsB L js l = true) : hldV L js (somL l l.length) h dir t m = hldV L js (allL l l.length) h dir t m := by
  have hn := ((sgns_iff L js l).1 hs).2.2.2
  have hsub := all_sub l l.length (Nat.le_refl _)
  rw [List.take_length] at hsub
  have hn2 : ((allL l l.length).map (·.n)).Nodup := hn.sublist (hsub.map _)
  show hS L js dir t (begK L dir m) (insA L dir h (somL l l.length)) 0 = hS L js dir t (begK L dir m) (insA L dir h (allL l l.length)) 0
  rw [som_filter, insA_filter keepB hn2]
  refine hS_keep ht _ _ (fun x hx => ?_) (insA_sorted hn2)
  have := (insA_perm L dir h (allL l l.length)).mem_iff.1 hx
  exact all_kind (List.mem_filter.1 this).1
theorem hld_spk (L : Int) (js : List Int) (l : List Sgn) (h dir t m : Int) : hldV L js (spkL h l l.length) h dir t m = hldV L js l h dir t m := by
  show hS L js dir t (begK L dir m) (insA L dir h (spkL h l l.length)) 0 = _
  rw [spk_ins]; rfl
theorem hld_oth (L : Int) (js : List Int) (l : List Sgn) (z : Nat) (h dir t m : Int) : hldV L js (covL z l l.length) h dir t m = hldV L js (othL z l l.length) h dir t m := by
  show hS L js dir t (begK L dir m) (insA L dir h (covL z l l.length)) 0 = hS L js dir t (begK L dir m) (insA L dir h (othL z l l.length)) 0
  rw [oth_cov]
theorem spk_good {L : Int} {js : List Int} {l : List Sgn} (h : Int) (hs : sgnsB L js l = true) : sgnsB L js (spkL h l l.length) = true := sgns_sub hs (by have := spk_sub h l l.length (Nat.le_refl _); rwa [List.take_length] at this)
theorem oth_good {L : Int} {js : List Int} {l : List Sgn} (z : Nat) (hs : sgnsB L js l = true) : sgnsB L js (othL z l l.length) = true := sgns_sub hs (by have := oth_sub z l l.length (Nat.le_refl _); rwa [List.take_length] at this)
theorem all_good {L : Int} {js : List Int} {l : List Sgn} (hs : sgnsB L js l = true) : sgnsB L js (allL l l.length) = true := sgns_sub hs (by have := all_sub l l.length (Nat.le_refl _); rwa [List.take_length] at this)
theorem som_good {L : Int} {js : List Int} {l : List Sgn} (hs : sgnsB L js l = true) : sgnsB L js (somL l l.length) = true := by
  rw [som_filter]
  exact sgns_sub (all_good hs) List.filter_sublist
end Go.Proofs.YtlpdjinhkmgbgaaGreatDoor

namespace Go.Proofs.YtlpdjinhkmgbgaaGreatDoor
set_option linter.unusedVariables false
set_option linter.unusedSimpArgs false
open Go.RowKit

theorem allocOld (w : World) (o : Obj) {r : Nat} (h : r < w.heap.size) : (w.alloc o).heap[r]? = w.heap[r]? := by
  first | exact heap_alloc_old w o h | exact heap_alloc_old w o _ h
/-- Two rows lie apart. -/
def apB (av a2 : Option Addr) : Prop := ∀ x y, av = some x → a2 = some y → x.block ≠ y.block
theorem apB.symm {av a2 : Option Addr} (h : apB av a2) : apB a2 av := fun x y hx hy e => h y x hy hx e.symm
theorem apB_none (a2 : Option Addr) : apB none a2 := fun x y hx _ => by cases hx
theorem apB_none2 (a2 : Option Addr) : apB a2 none := fun x y _ hy => by cases hy
/-- What an append leaves: every older block but that of the row; the row's new block is none of them. -/
def KpB (w w' : World) (av : Option Addr) (g : Nat) : Prop := ∀ B, B < w.heap.size → (∀ x, av = some x → x.block ≠ B) → w'.heap[B]? = w.heap[B]? ∧ g ≠ B
theorem own_lt {w : World} {B : Nat} {T : TypeId} {K : Nat} {av : Option Addr} {n c m : Nat} {xs : List Value} (h : w.ownsRow B T K (.slice av n c) m xs) : ∀ x, av = some x → x.off = 0 ∧ B ≤ x.block ∧ x.block < w.heap.size := by
  intro x hx
  rcases h.2 with ⟨h1, _⟩ | ⟨g2, c3, cur, h1, h2, h3, _⟩
  · injection h1 with h1 _ _
    rw [hx] at h1; cases h1
  · injection h1 with h1 _ _
    rw [hx] at h1
    injection h1 with h1
    subst h1
    refine ⟨rfl, h2, ?_⟩
    apply Nat.lt_of_not_le
    intro hle
    rw [Array.getElem?_eq_none hle] at h3
    cases h3
theorem own_kept {w w' : World} {B : Nat} {T : TypeId} {K : Nat} {av a2 : Option Addr} {n c m g : Nat} {xs : List Value} (h : w.ownsRow B T K (.slice a2 n c) m xs) (hk : KpB w w' av g) (ha : apB av a2) :
    w'.ownsRow B T K (.slice a2 n c) m xs ∧ apB (some ⟨g, 0, none⟩) a2 := by
  refine ⟨⟨h.1, ?_⟩, fun x y hx hy => ?_⟩
  · rcases h.2 with h1 | ⟨g2, c3, cur, h1, h2, h3, h4⟩
    · exact .inl h1
    · refine .inr ⟨g2, c3, cur, h1, h2, ?_, h4⟩
      have e : a2 = some ⟨g2, 0, none⟩ := by injection h1
      have hl := (own_lt h _ e).2.2
      exact (hk g2 hl fun x hx => ha x _ hx e).1.trans h3
  · injection hx with hx
    subst hx
    exact (hk y.block (own_lt h y hy).2.2 fun x hx => ha x y hx hy).2
/-- append of one new element to a row of one's own, in a region that is not drawn. -/
theorem app_lit {P : Program} {W : World} {ops : Array Oper} {rest : List Oper} {o : Oper} {a : Act} {Q : Exit → Act → World → Prop} (hgd : o.guard = none) (s x : Operand) (t : TypeId)
    (ho : o.op = .call { callee := .builtin .append, args := #[s, x], argTypes := #[t, t] })
    (B : Nat) (T : TypeId) (i : TypeInfo) (z : Value) (K bytes : Nat) (ht : P.underlying t = some (.slice T)) (hi : P.info? T = some i) (hz : i.zero = some z)
    (hsize : i.size = K) (hby : i.bytes = bytes) (hzs : z.cells.size = K) (hK : 0 < K) (hbb : bytes ≤ 1000)
    (av : Option Addr) (n cv : Nat) (xs : List Value) (hs : a.eval s = .slice av n cv) (hR : W.ownsRow B T K (.slice av n cv) n xs)
    (cs : Array Value) (hcs : cs.size = K) (h1 : ∀ u ∈ cs.toList, u.oneCell' = true) (hx : a.eval x = .slice (some ⟨W.heap.size, 0, none⟩) 1 1)
    (hB : B ≤ W.heap.size) (hn : n ≤ 1000)
    (h : ∀ g cap w', w'.ownsRow B T K (.slice (some ⟨g, 0, none⟩) (n + 1) cap) (n + 1) (xs ++ cs.toList) → KpB W w' av g → g < w'.heap.size →
      (∀ w0 : World, B = w0.heap.size → Below w0.heap.size w0 W → Below w0.heap.size w0 w') → wpList P ops Q rest (a.put o.dst (.slice (some ⟨g, 0, none⟩) (n + 1) cap)) w') :
    wpList P ops Q (o :: rest) a (W.alloc (.cells cs T)) := by
  refine wpList_append_lies (W.alloc (.cells cs T)) hgd s x t ho B T i z K bytes ht hi hz hsize hby hzs hK (.slice av n cv) n xs hs (hR.alloc _) ⟨W.heap.size, 0, none⟩ 1 1 cs.toList hx
    (by rw [Array.length_toList, hcs, Nat.one_mul]) (World.news_of_block (heap_alloc_new W _)) h1 (by decide) (by unfold maxLen; omega) ?_ (by simp; omega) _ rfl ?_
  · have := Nat.mul_le_mul (show n + 1 ≤ 1001 by omega) hbb; omega
  · intro g cap w' hown hgrow hat hlt
    refine h g cap w' hown (fun B' hB' hne => ⟨?_, ?_⟩) hlt fun w0 hw0 hb => ?_
    · refine (hgrow.block B' (by simp; omega) fun e => ?_).trans (allocOld W _ hB')
      cases av with
      | none => simp [Value.ownBlock] at e
      | some y => simp [Value.ownBlock] at e; exact hne y rfl e.symm
    · rcases hat with h9 | h9
      · cases av with
        | none => simp [Value.ownBlock] at h9
        | some y => simp [Value.ownBlock] at h9; rw [← h9]; exact hne y rfl
      · intro e; rw [h9] at e; simp at e; omega
    · subst hw0
      refine (hb.alloc hB _).grown hgrow (by simp; omega) fun k hk => ?_
      cases av with
      | none => simp [Value.ownBlock] at hk
      | some y =>
        simp [Value.ownBlock] at hk
        rw [← hk]
        exact (own_lt hR y rfl).2.1
end Go.Proofs.YtlpdjinhkmgbgaaGreatDoor

namespace Go.Proofs.YtlpdjinhkmgbgaaGreatDoor
set_option linter.unusedVariables false
set_option linter.unusedSimpArgs false
open Go.RowKit

/-- The cells of a block that is known. -/
theorem heapc {w : World} {B : Nat} {cs : Array Value} {T : TypeId} {fr : Nat × Nat} (h : w.heap[B]? = some (.cells cs T fr)) {i : Nat} {v : Value} (hi : cs[i]? = some v) : w.cell? ⟨B, i, none⟩ = some v := (cell_of_row w B i cs T fr h).trans hi
theorem heap_lt {w : World} {B : Nat} {o : Obj} (h : w.heap[B]? = some o) : B < w.heap.size := by
  apply Nat.lt_of_not_le
  intro hle
  rw [Array.getElem?_eq_none hle] at h
  cases h
theorem heap_below {w w' : World} {B : Nat} {o : Obj} (h : w.heap[B]? = some o) (hb : Below w.heap.size w w') : w'.heap[B]? = some o := (hb.block B (heap_lt h)).trans h
/-- A block of another type is no row's. -/
theorem own_type {w : World} {B : Nat} {T T2 : TypeId} {K : Nat} {av : Option Addr} {n c m b : Nat} {xs : List Value} {cs : Array Value} {fr : Nat × Nat} (h : w.ownsRow B T K (.slice av n c) m xs) (hb : w.heap[b]? = some (.cells cs T2 fr)) (hT : T ≠ T2) : ∀ x, av = some x → x.block ≠ b := by
  intro x hx e
  rcases h.2 with ⟨h1, _⟩ | ⟨g2, c3, cur, h1, h2, h3, _⟩
  · injection h1 with h1 _ _
    rw [hx] at h1; cases h1
  · injection h1 with h1 _ _
    rw [hx] at h1
    injection h1 with h1
    subst h1
    rw [show g2 = b from e] at h3
    rw [hb] at h3
    injection h3 with h3
    injection h3 with _ h3 _
    exact hT h3.symm
theorem heap_kept {w w' : World} {av : Option Addr} {g B : Nat} {o : Obj} (hk : KpB w w' av g) (h : w.heap[B]? = some o) (hne : ∀ x, av = some x → x.block ≠ B) : w'.heap[B]? = some o ∧ g ≠ B :=
  ⟨(hk B (heap_lt h) hne).1.trans h, (hk B (heap_lt h) hne).2⟩
/-- Values of signs whose covers lie in memory. -/
def PrsL (w : World) (S : List RE) : Prop := ∀ x, x ∈ S → PairsS w x.2.1 x.1.cv
theorem PrsL.below {w w' : World} {S : List RE} (h : PrsL w S) (hb : Below w.heap.size w w') : PrsL w' S := fun x hx => (h x hx).below hb
theorem PrsL.snoc {w : World} {S : List RE} {X : RE} (h : PrsL w S) (hX : PairsS w X.2.1 X.1.cv) : PrsL w (S ++ [X]) := fun x hx => by
  rw [List.mem_append, List.mem_singleton] at hx
  rcases hx with hx | hx
  · exact h x hx
  · rw [hx]; exact hX
theorem row_sgn {w : World} {base c : Nat} {a : Option Addr} {S : List RE} (h : w.ownsRow base 69 9 (.slice a S.length c) S.length (clR S)) (hn : S.length ≤ 9223372036854775807) (hp : PrsL w S) : SgnS w a (S.map (·.1)) :=
  ownR h hn fun i hi => hp _ (by rw [getElem!_pos S i hi]; exact List.getElem_mem hi)
theorem clR_snoc (S : List RE) (X : RE) : clR (S ++ [X]) = clR S ++ encS X := by rw [clR_app]; simp [clR]
theorem map_snoc (S : List RE) (X : RE) : (S ++ [X]).map (·.1) = S.map (·.1) ++ [X.1] := by rw [List.map_append]; rfl
/-- Holds at a row of one's own. -/
theorem holds_row (L : Int) (a : Option Addr) (js : List Int) (ca : Nat) (av : Option Addr) (S : List RE) (cv : Nat) (l : List Sgn) (h dir tp m V : Int) (hV : hldV L js l h dir tp m = V) (hs : sgnsB L js l = true) (hl : S.map (·.1) = l) (h0 : btw h 0 10000000 = true) (h1 : dirB dir = true) (h2 : topB tp = true) (h3 : btw m 0 (L - 1) = true) (base : Nat) (w : World) (hI : IntsS w a js)
    (hR : w.ownsRow base 69 9 (.slice av S.length cv) S.length (clR S)) (hp : PrsL w S) : Calls Tryz.prog 21 #[.agg #[.int .i64 L, .slice a js.length ca], .slice av S.length cv, .int .i64 h, .int .i64 dir, .int .i64 tp, .int .i64 m] w (NumA V 0 w) := by
  subst hl
  have hn := ((sgns_iff L js _).1 hs).2.1
  rw [List.length_map] at hn
  have := Holds_good L a js ca av (S.map (·.1)) cv h dir tp m ((lst_iff _ _ _).2 hs) h0 h1 h2 h3 w hI (row_sgn hR (by omega) hp)
  rw [List.length_map, hV] at this
  exact this
end Go.Proofs.YtlpdjinhkmgbgaaGreatDoor
