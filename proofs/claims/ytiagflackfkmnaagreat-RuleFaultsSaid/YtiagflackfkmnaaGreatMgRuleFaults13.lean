/-
  Between the cuts of a course nothing changes: what holds, and what must hold, as stretches. By an AI agent.; append of a slice that has no elements, whatever its address and its capacity: the slice stays. By an AI agent.; Faults of package rule. By an AI agent.; The faults of a row by its signs alone; two lists of faults in order are one. By an AI agent.
-/
import Derived.Test.YtiagflackfkmnaaGreatMgRuleFaults11
import Derived.Test.YtiagflackfkmnaaGreatMgRuleFaults12
import Derived.Deep.AppendLies
import Derived.Laws.AppendOwnNone
import Derived.Deep.RegionHeld3
import Derived.Deep.DeepCutAuto
import Derived.BigQuiet
import Derived.BigRegion

namespace Go.Proofs.YtiagflackfkmnaaGreat
set_option linter.unusedVariables false
set_option linter.unusedSimpArgs false
open Go.RowKit

theorem gi_mem {z : List Int} {k : Nat} (h : k < z.length) : gi z k ∈ z := by rw [gi_at z h]; exact List.getElem_mem h
theorem asc_lt (cuts : List Int) {i j : Nat} (hij : i < j) (hj : j < (ascL cuts).length) : gi (ascL cuts) i < gi (ascL cuts) j := by
  rw [gi_at _ (by omega), gi_at _ hj]
  exact (List.pairwise_iff_getElem.1 (asc_pw cuts)) i j (by omega) hj hij
theorem asc_ends {cuts : List Int} {A B : Int} (hA : A ∈ cuts) (hB : B ∈ cuts) (h : ∀ c, c ∈ cuts → A ≤ c ∧ c ≤ B) : gi (ascL cuts) 0 = A ∧ gi (ascL cuts) ((ascL cuts).length - 1) = B ∧ 0 < (ascL cuts).length := by
  have hp : 0 < (ascL cuts).length := asc_pos (by rintro rfl; cases hA)
  have hm : ∀ k, k < (ascL cuts).length → A ≤ gi (ascL cuts) k ∧ gi (ascL cuts) k ≤ B := fun k hk => h _ ((asc_iff cuts _).1 (gi_mem hk))
  obtain ⟨i, hi, ei⟩ := List.getElem_of_mem ((asc_iff cuts A).2 hA)
  obtain ⟨j, hj, ej⟩ := List.getElem_of_mem ((asc_iff cuts B).2 hB)
  rw [← gi_at _ hi] at ei
  rw [← gi_at _ hj] at ej
  refine ⟨?_, ?_, hp⟩
  · by_cases e : i = 0
    · rw [← ei, e]
    · have := asc_lt cuts (i := 0) (j := i) (by omega) hi
      have := (hm 0 hp).1
      omega
  · by_cases e : j = (ascL cuts).length - 1
    · rw [← ej, e]
    · have := asc_lt cuts (i := j) (j := (ascL cuts).length - 1) (by omega) (by omega)
      have := (hm ((ascL cuts).length - 1) (by omega)).2
      omega
/-- A function that hangs on how a place lies to the cuts alone. -/
theorem asc_const {V : Type} {cuts : List Int} {f : Int → V} (h : ∀ a m : Int, (∀ c, c ∈ cuts → (a < c ↔ m < c)) → f m = f a) (k : Nat) (hk : k + 1 < (ascL cuts).length) (i : Int) (h1 : gi (ascL cuts) k ≤ i) (h2 : i < gi (ascL cuts) (k + 1)) : f i = f (gi (ascL cuts) k) := by
  refine h _ _ fun c hc => ?_
  obtain ⟨j, hj, e⟩ := List.getElem_of_mem ((asc_iff cuts c).2 hc)
  rw [← gi_at _ hj] at e
  by_cases hjk : j ≤ k
  · have : gi (ascL cuts) j ≤ gi (ascL cuts) k := by
      by_cases e2 : j = k
      · rw [e2]; exact Int.le_refl _
      · exact Int.le_of_lt (asc_lt cuts (by omega) (by omega))
    omega
  · have : gi (ascL cuts) (k + 1) ≤ gi (ascL cuts) j := by
      by_cases e2 : j = k + 1
      · rw [e2]; exact Int.le_refl _
      · exact Int.le_of_lt (asc_lt cuts (by omega) hj)
    omega
theorem strV_congr {V : Type} [DecidableEq V] [Inhabited V] {sk : V → Bool} {f g : Int → V} : ∀ n : Nat, (∀ i : Nat, i < n → f i = g i) → strV sk f n = strV sk g n
  | 0, _ => rfl
  | n + 1, h => by rw [strV, strV, strV_congr n (fun i hi => h i (by omega)), h n (by omega)]
/-- The stretches of a function along a line. -/
def strS (L : Int) (f : Int → Int) : List Tri := strV (fun v : Int => v == 0) f L.toNat
theorem strS_congr {L : Int} {f g : Int → Int} (h : ∀ m : Int, 0 ≤ m → m < L → f m = g m) : strS L f = strS L g := strV_congr _ fun i hi => h i (by omega) (by omega)
theorem held_cuts {cuts : List Int} {L : Int} {f : Int → Int} (hL : 0 ≤ L) (hA : 0 ∈ cuts) (hB : L ∈ cuts) (hb : ∀ c, c ∈ cuts → 0 ≤ c ∧ c ≤ L) (h : ∀ a m : Int, (∀ c, c ∈ cuts → (a < c ↔ m < c)) → f m = f a) : heldL (prtK (ascL cuts) f (ascL cuts).length) = strS L f := by
  obtain ⟨e1, e2, e3⟩ := asc_ends hA hB hb
  have := parts_all (sk := fun v : Int => v == 0) (asc_pw cuts) e1 e2 e3 (fun k hk i h1 h2 => asc_const (f := f) h k hk i h1 h2)
  rw [← prtK_V] at this
  exact this
theorem line_jct {L : Int} {js : List Int} (h : lineB L js = true) : ∀ j, j < js.length → 0 < gi js j ∧ gi js j < L := by
  unfold lineB at h
  simp only [Bool.and_eq_true, decide_eq_true_eq, Bool.not_eq_true'] at h
  have hj : ∀ j, j < js.length → jOk L js j = true := fun j hj => by simpa using (anyK_iff _).1 h.2 j hj
  intro j hjl
  have h0 := jOk_pos (L := L) j (fun i hi => hj i (by omega))
  have h3 := hj j hjl
  unfold jOk at h3
  simp only [Bool.and_eq_true, decide_eq_true_eq] at h3
  omega
theorem lst_line {L : Int} {js : List Int} {l : List Sgn} {q : List Edc} (h : lstE L js l q = 0) : lineB L js = true ∧ 1 ≤ L ∧ L ≤ 100000 := by
  unfold lstE at h
  split at h
  · cases h
  next h1 =>
  have h1 : lineB L js = true := by simpa using h1
  have g := h1
  unfold lineB at g
  simp only [Bool.and_eq_true, decide_eq_true_eq] at g
  have := btw_ge g.1.1
  exact ⟨h1, this.1, this.2⟩
theorem dst_in {L dir c : Int} (hd : dirB dir = true) (h1 : 0 ≤ c) (h2 : c ≤ L) : 0 ≤ dstK L dir c ∧ dstK L dir c ≤ L := by
  unfold dstK; split <;> omega
theorem dst_dst {L dir c : Int} : dstK L dir (dstK L dir c) = c := by
  unfold dstK; split <;> omega
theorem opn_in {L : Int} {js : List Int} {dir d : Int} (hd : d ≤ L) (hJ : ∀ j, j < js.length → dstK L dir (gi js j) ≤ L) : ∀ n, n ≤ js.length → d ≤ opnK L js dir d n ∧ opnK L js dir d n ≤ L
  | 0, _ => ⟨hd, Int.le_refl _⟩
  | n + 1, hn => by
    have ih := opn_in hd hJ n (by omega)
    have hj := hJ n (by omega)
    rw [opnK]
    split
    · rw [Int.min_def]; split <;> omega
    · exact ih
/-- The signs of good lists. -/
theorem sgn_in {L : Int} {js : List Int} {l : List Sgn} (h : sgnsB L js l = true) (j : Nat) (hj : j < l.length) : sgnB L (gs l j) = true := by
  unfold sgnsB at h
  simp only [Bool.and_eq_true, decide_eq_true_eq] at h
  have hA := h.1.2
  unfold allB at hA
  simp only [Bool.not_eq_true'] at hA
  simpa using (anyK_iff _).1 hA j hj
theorem sgn_c {L : Int} {s : Sgn} (h : sgnB L s = true) : 0 ≤ s.c ∧ s.c ≤ L := by
  unfold sgnB at h
  simp only [Bool.and_eq_true, decide_eq_true_eq] at h
  have := btw_ge h.1.1.1.1.1.2
  omega
theorem row_in {L : Int} {js : List Int} {dir h : Int} {l : List Sgn} {q : List Edc} {row : List Pst} (hV : lstE L js l q = 0) (hd : dirB dir = true) (H : RowL L js dir h l row) (i : Nat) (hi : i < row.length) : (0 ≤ (gq row i).d ∧ (gq row i).d ≤ L) ∧ 0 ≤ (gq row i).u ∧ (gq row i).u ≤ L := by
  obtain ⟨hl, hL1, hL2⟩ := lst_line hV
  have hsb := lst_sgns hV
  have hval := (lst_good hV).2.2.1
  obtain ⟨e1, ⟨j, hj, e2, -⟩, e3, -⟩ := row_elem H i hi
  have hc := sgn_c (sgn_in hsb j hj)
  rw [← e2] at hc
  have h1 := dst_in hd hc.1 hc.2
  have h2 := opn_in (dir := dir) h1.2 (fun j hj => by
    have := line_jct hl j hj
    exact (dst_in hd (by omega) (by omega)).2) js.length (Nat.le_refl _)
  rw [e1, e3]
  refine ⟨h1, ?_⟩
  split
  next hp =>
    obtain ⟨-, ⟨j2, hj2, e4, -⟩, -, -⟩ := row_elem H (i + 1) hp.1
    have := (hval j2 hj2).2
    rw [← e4] at this
    rw [Int.min_def]
    split <;> omega
  · omega
theorem cutsK_mem {L dir : Int} {row : List Pst} : ∀ n, n ≤ row.length → ∀ c, c ∈ cutsK L dir row n ↔ c = 0 ∨ c = L ∨ ∃ i, i < n ∧ (c = dstK L dir (gq row i).d ∨ c = dstK L dir (gq row i).u)
  | 0, _, c => by simp [cutsK]
  | n + 1, hn, c => by
    rw [cutsK, List.mem_append, cutsK_mem n (by omega) c]
    simp only [List.mem_cons, List.not_mem_nil, or_false]
    constructor
    · rintro ((h | h | ⟨i, hi, h⟩) | h)
      · exact .inl h
      · exact .inr (.inl h)
      · exact .inr (.inr ⟨i, by omega, h⟩)
      · exact .inr (.inr ⟨n, by omega, h⟩)
    · rintro (h | h | ⟨i, hi, h⟩)
      · exact .inl (.inl h)
      · exact .inl (.inr (.inl h))
      · by_cases e : i = n
        · rw [e] at h; exact .inr h
        · exact .inl (.inr (.inr ⟨i, by omega, h⟩))
theorem hld_same {t k k' : Int} : ∀ (row : List Pst), (∀ p, p ∈ row → (k < p.d ↔ k' < p.d) ∧ (p.u ≤ k ↔ p.u ≤ k')) → ∀ v, hldL t k row v = hldL t k' row v
  | [], _, v => rfl
  | p :: r, h, v => by
    obtain ⟨h1, h2⟩ := h p (by simp)
    rw [hldL, hldL]
    have e : stpK p t k v = stpK p t k' v := by
      unfold stpK
      rw [ifc h2]
    rw [ifc h1, e, hld_same r (fun x hx => h x (by simp [hx]))]
theorem beg_lt {L dir m c : Int} (hd : dirB dir = true) : begK L dir m < c ↔ (if dir = 1 then m < dstK L dir c else ¬ m < dstK L dir c) := by
  unfold begK dstK
  by_cases h : dir = 1
  · rw [if_pos h, if_pos h, if_pos h]
  · rw [if_neg h, if_neg h, if_neg h]; omega
/-- What Held says of a row that the program makes: the stretches of what holds on each metre. -/
def heldS (L : Int) (js : List Int) (l : List Sgn) (h dir t : Int) : List Tri := strS L (fun m => hldV L js l h dir t m)
theorem told_const {L : Int} {js : List Int} {dir h t : Int} {l : List Sgn} {q : List Edc} {row : List Pst} (hV : lstE L js l q = 0) (hd : dirB dir = true) (H : RowL L js dir h l row) (a m : Int) (hc : ∀ c, c ∈ cutsK L dir row row.length → (a < c ↔ m < c)) : hldL t (begK L dir m) row 0 = hldL t (begK L dir a) row 0 := by
  refine hld_same row (fun p hp => ?_) 0
  obtain ⟨i, hi, e⟩ := List.getElem_of_mem hp
  have eg : gq row i = p := by unfold gq; simp [hi, e]
  have m1 := hc _ ((cutsK_mem row.length (Nat.le_refl _) _).2 (.inr (.inr ⟨i, hi, .inl rfl⟩)))
  have m2 := hc _ ((cutsK_mem row.length (Nat.le_refl _) _).2 (.inr (.inr ⟨i, hi, .inr rfl⟩)))
  rw [eg] at m1 m2
  have n1 := beg_lt (L := L) (m := m) (c := p.d) hd
  have n2 := beg_lt (L := L) (m := a) (c := p.d) hd
  have n3 := beg_lt (L := L) (m := m) (c := p.u) hd
  have n4 := beg_lt (L := L) (m := a) (c := p.u) hd
  constructor
  · rw [n1, n2]
    split
    · exact m1.symm
    · rw [m1]
  · have : (begK L dir m < p.u ↔ begK L dir a < p.u) := by
      rw [n3, n4]
      split
      · exact m2.symm
      · rw [m2]
    omega
theorem told_cuts {L : Int} {js : List Int} {dir h : Int} {l : List Sgn} {q : List Edc} {row : List Pst} (hV : lstE L js l q = 0) (hd : dirB dir = true) (H : RowL L js dir h l row) : 0 ∈ cutsK L dir row row.length ∧ L ∈ cutsK L dir row row.length ∧ ∀ c, c ∈ cutsK L dir row row.length → 0 ≤ c ∧ c ≤ L := by
  obtain ⟨hl, hL1, hL2⟩ := lst_line hV
  refine ⟨(cutsK_mem row.length (Nat.le_refl _) _).2 (.inl rfl), (cutsK_mem row.length (Nat.le_refl _) _).2 (.inr (.inl rfl)), fun c hc => ?_⟩
  rcases (cutsK_mem row.length (Nat.le_refl _) c).1 hc with rfl | rfl | ⟨i, hi, rfl | rfl⟩
  · omega
  · omega
  · have := row_in hV hd H i hi
    exact dst_in hd this.1.1 this.1.2
  · have := row_in hV hd H i hi
    exact dst_in hd this.2.1 this.2.2
theorem hldM_eq {L : Int} {js : List Int} {dir h t : Int} {l : List Sgn} {q : List Edc} {row : List Pst} (hV : lstE L js l q = 0) (hd : dirB dir = true) (ht : t ≠ 0) (H : RowL L js dir h l row) : hldM L dir t row = heldS L js l h dir t := by
  obtain ⟨hl, hL1, hL2⟩ := lst_line hV
  obtain ⟨c1, c2, c3⟩ := told_cuts hV hd H
  obtain ⟨hn1, hn2⟩ := sgn_nums (lst_sgns hV)
  unfold hldM heldS
  rw [held_cuts (L := L) (by omega) c1 c2 c3 (fun a m hc => told_const hV hd H a m hc)]
  exact strS_congr fun m h1 h2 => hld_ins hn2 ht (beg_bd (by omega) hL2 h1 h2).2 H
/-- The cuts of edicts. -/
def cutsW (L : Int) (q : List Edc) : Nat → List Int
  | 0 => [0, L]
  | k + 1 => cutsW L q k ++ [(ge q k).fr, (ge q k).tt]
theorem cutsW_len (L : Int) (q : List Edc) : ∀ k, (cutsW L q k).length = 2 + 2 * k
  | 0 => rfl
  | k + 1 => by rw [cutsW, List.length_append, cutsW_len L q k]; simp; omega
theorem cutsW_mem {L : Int} {q : List Edc} : ∀ n, n ≤ q.length → ∀ c, c ∈ cutsW L q n ↔ c = 0 ∨ c = L ∨ ∃ i, i < n ∧ (c = (ge q i).fr ∨ c = (ge q i).tt)
  | 0, _, c => by simp [cutsW]
  | n + 1, hn, c => by
    rw [cutsW, List.mem_append, cutsW_mem n (by omega) c]
    simp only [List.mem_cons, List.not_mem_nil, or_false]
    constructor
    · rintro ((h | h | ⟨i, hi, h⟩) | h)
      · exact .inl h
      · exact .inr (.inl h)
      · exact .inr (.inr ⟨i, by omega, h⟩)
      · exact .inr (.inr ⟨n, by omega, h⟩)
    · rintro (h | h | ⟨i, hi, h⟩)
      · exact .inl (.inl h)
      · exact .inl (.inr (.inl h))
      · by_cases e : i = n
        · rw [e] at h; exact .inr h
        · exact .inl (.inr (.inr ⟨i, by omega, h⟩))
theorem edc_in {L : Int} {js : List Int} {q : List Edc} (h : edcsB L js q = true) (j : Nat) (hj : j < q.length) : edcB L (ge q j) = true := by
  unfold edcsB at h
  simp only [Bool.and_eq_true, decide_eq_true_eq] at h
  have hA := h.1.2
  unfold allE at hA
  simp only [Bool.not_eq_true'] at hA
  simpa using (anyK_iff _).1 hA j hj
theorem edc_bd {L : Int} {x : Edc} (h : edcB L x = true) : 0 ≤ x.fr ∧ x.fr < x.tt ∧ x.tt ≤ L := by
  unfold edcB at h
  simp only [Bool.and_eq_true, decide_eq_true_eq] at h
  omega
theorem mustK_same {q : List Edc} {h t d m m' : Int} : ∀ n, n ≤ q.length → (∀ i, i < n → ((ge q i).fr ≤ m ↔ (ge q i).fr ≤ m') ∧ (m < (ge q i).tt ↔ m' < (ge q i).tt)) → mustK q h t d m n = mustK q h t d m' n
  | 0, _, _ => rfl
  | n + 1, hn, hh => by
    rw [mustK, mustK, mustK_same n (by omega) (fun i hi => hh i (by omega))]
    obtain ⟨h1, h2⟩ := hh n (by omega)
    have : edB (ge q n) h t d m = edB (ge q n) h t d m' := by
      unfold edB
      rw [show decide ((ge q n).fr ≤ m) = decide ((ge q n).fr ≤ m') from decide_eq_decide.2 h1, show decide (m < (ge q n).tt) = decide (m' < (ge q n).tt) from decide_eq_decide.2 h2]
    rw [this]
def wantS (L : Int) (q : List Edc) (h dir t : Int) : List Tri := strS L (fun m => mustV q h t dir m)
theorem want_const {L : Int} {q : List Edc} {h t d : Int} (a m : Int) (hc : ∀ c, c ∈ cutsW L q q.length → (a < c ↔ m < c)) : mustV q h t d m = mustV q h t d a := by
  unfold mustV
  rw [mustK_same q.length (Nat.le_refl _) (fun i hi => ?_)]
  have m1 := hc _ ((cutsW_mem q.length (Nat.le_refl _) _).2 (.inr (.inr ⟨i, hi, .inl rfl⟩)))
  have m2 := hc _ ((cutsW_mem q.length (Nat.le_refl _) _).2 (.inr (.inr ⟨i, hi, .inr rfl⟩)))
  constructor <;> omega
theorem want_cuts {L : Int} {js : List Int} {l : List Sgn} {q : List Edc} (hV : lstE L js l q = 0) : 0 ∈ cutsW L q q.length ∧ L ∈ cutsW L q q.length ∧ ∀ c, c ∈ cutsW L q q.length → 0 ≤ c ∧ c ≤ L := by
  obtain ⟨hl, hL1, hL2⟩ := lst_line hV
  refine ⟨(cutsW_mem q.length (Nat.le_refl _) _).2 (.inl rfl), (cutsW_mem q.length (Nat.le_refl _) _).2 (.inr (.inl rfl)), fun c hc => ?_⟩
  rcases (cutsW_mem q.length (Nat.le_refl _) c).1 hc with rfl | rfl | ⟨i, hi, rfl | rfl⟩
  · omega
  · omega
  · have := edc_bd (edc_in (lst_edcs hV) i hi); omega
  · have := edc_bd (edc_in (lst_edcs hV) i hi); omega
theorem wantM_eq {L : Int} {js : List Int} {l : List Sgn} {q : List Edc} {h dir t : Int} (hV : lstE L js l q = 0) : heldL (prtK (ascL (cutsW L q q.length)) (fun m => mustV q h t dir m) (ascL (cutsW L q q.length)).length) = wantS L q h dir t := by
  obtain ⟨hl, hL1, hL2⟩ := lst_line hV
  obtain ⟨c1, c2, c3⟩ := want_cuts hV
  exact held_cuts (L := L) (by omega) c1 c2 c3 (fun a m hc => want_const a m hc)
end Go.Proofs.YtiagflackfkmnaaGreat

namespace Go.Proofs.YtiagflackfkmnaaGreat
set_option linter.unusedVariables false
set_option linter.unusedSimpArgs false
theorem loadNoneZ (P : Program) (w : World) (a : Addr) : (loadCells a 0).run P w = .ok #[] w := rfl
theorem run_append_zed {P : Program} {w : World} (base : Nat) (t ty e : TypeId) (i : TypeInfo) (size : Nat) (ht : P.underlying t = some (.slice e)) (hi : P.info? e = some i)
    (v : Value) (n : Nat) (xs : List Value) (hown : w.ownsRow base e size v n xs) (ao : Option Addr) (c : Nat) :
    (Builtin.append_ #[t, t] ty #[v, .slice ao 0 c]).run P w = .ok v w := by
  rcases hown.2 with ⟨rfl, rfl⟩ | ⟨g, cap, cur, rfl, _, _, hnc, _⟩
  · cases ao <;> simp [Builtin.append_, run_underlying ht, sizeOf, typeInfo, hi, Builtin.lenOf, Builtin.firstCells, loadNoneZ, Result.andThen]
  · cases ao <;> simp [Builtin.append_, run_underlying ht, sizeOf, typeInfo, hi, Builtin.lenOf, Builtin.firstCells, hnc, storeCells, loadNoneZ, Result.andThen]
theorem wpList_append_zed {P : Program} {w : World} {ops : Array Oper} {rest : List Oper} {o : Oper} {a : Act} {Q : Exit → Act → World → Prop} (hgd : o.guard = none) (s x : Operand) (t : TypeId)
    (ho : o.op = .call { callee := .builtin .append, args := #[s, x], argTypes := #[t, t] })
    (base : Nat) (e : TypeId) (i : TypeInfo) (size : Nat) (ht : P.underlying t = some (.slice e)) (hi : P.info? e = some i)
    (v : Value) (n : Nat) (xs : List Value) (hs : a.eval s = v) (hown : w.ownsRow base e size v n xs) (ao : Option Addr) (c : Nat) (hx : a.eval x = .slice ao 0 c)
    (h : wpList P ops Q rest (a.put o.dst v) w) : wpList P ops Q (o :: rest) a w := by
  refine wpList_plain hgd fun K hK => ?_
  have hrun := run_append_zed (P := P) (w := w) base t o.type e i size ht hi v n xs hown ao c
  unfold Oper.wp
  simp [execOp, ho, resolve, invoke, builtin, hs, hx, hrun, Result.andThen]
  exact hK _ _ h
end Go.Proofs.YtiagflackfkmnaaGreat

namespace Go.Proofs.YtiagflackfkmnaaGreat
set_option linter.unusedVariables false
set_option linter.unusedSimpArgs false
open Go.RowKit

/-- An inspector in memory. -/
def InsB (L : Int) (js : List Int) (dir h : Int) (l : List Sgn) (w : World) (g : Nat) (row : List Pst) (ar : Option Addr) (cr : Nat) : Prop :=
  RowL L js dir h l row ∧ row.length ≤ l.length ∧ PstS w ar row ∧ w.cell? ⟨g, 0, none⟩ = some (.int .i64 L) ∧ w.cell? ⟨g, 1, none⟩ = some (.slice ar row.length cr)
/-- The faults found behind k directions. -/
def FltM (L : Int) (js : List Int) (h : Int) (l : List Sgn) : Nat → List Flt → Prop
  | 0, M => M = []
  | 1, M => ∃ row, RowL L js 1 h l row ∧ M = fltK L row row.length
  | _ + 2, M => ∃ r1 r2, RowL L js 1 h l r1 ∧ RowL L js (-1) h l r2 ∧ M = fltK L r1 r1.length ++ fltK L r2 r2.length
/-- Faults comes back. -/
def FauE (L : Int) (js : List Int) (h : Int) (l : List Sgn) (w : World) (e : Ending) (w' : World) : Prop :=
  ∃ (M S : List Flt) (b : Option Addr) (c : Nat), FltM L js h l 2 M ∧ S.Perm M ∧ (∀ i j, i < j → j < S.length → (gp S i).1 ≤ (gp S j).1) ∧ e = .returned (.tuple #[.slice b S.length c, .int .i64 0]) ∧ PairsS w' b S ∧ Below w.heap.size w w'
theorem rowL_bd {L : Int} {js : List Int} {dir h : Int} {l : List Sgn} {row : List Pst} (hL1 : 0 ≤ L) (hL2 : L ≤ 100000) (hC : ∀ j, j < l.length → (0 ≤ (gs l j).c ∧ (gs l j).c ≤ 100000) ∧ 0 ≤ (gs l j).v ∧ (gs l j).v ≤ 100000) (H : RowL L js dir h l row) : ∀ i, i < row.length → (-100000 ≤ (gq row i).d ∧ (gq row i).d ≤ 100000) ∧ -100000 ≤ (gq row i).s.v ∧ (gq row i).s.v ≤ 100000 := fun i hi => by
  obtain ⟨e1, ⟨j, hj, e2, -⟩, -, -⟩ := row_elem H i hi
  have := hC j hj
  rw [← e2] at this
  have hd := dst_bd (L := L) (dir := dir) hL1 hL2 this.1.1 this.1.2
  rw [e1]
  omega
theorem fltM_n {L : Int} {js : List Int} {h : Int} {l : List Sgn} {M : List Flt} (hn : ∀ k, k < l.length → 1 ≤ (gs l k).n ∧ (gs l k).n ≤ 1000000000) (H : FltM L js h l 2 M) : ∀ x, x ∈ M → (1 ≤ x.1 ∧ x.1 ≤ 1000000000) ∧ 0 ≤ x.2 ∧ x.2 ≤ 4 := by
  have one : ∀ dir row, RowL L js dir h l row → ∀ x, x ∈ fltK L row row.length → (1 ≤ x.1 ∧ x.1 ≤ 1000000000) ∧ 0 ≤ x.2 ∧ x.2 ≤ 4 := fun dir row hR x hx => by
    obtain ⟨i, hi, e⟩ := fltK_mem hx
    obtain ⟨-, ⟨j, hj, e2, -⟩, -, -⟩ := row_elem hR i hi
    have h1 := hn j hj
    rw [← e2] at h1
    have h2 := codP_bd L row (gq row i)
    rw [e]
    exact ⟨h1, h2⟩
  obtain ⟨r1, r2, h1, h2, rfl⟩ := H
  intro x hx
  rw [List.mem_append] at hx
  rcases hx with hx | hx
  · exact one _ _ h1 x hx
  · exact one _ _ h2 x hx
theorem ins_set0 {w : World} {B : Nat} {x y : Int} {a b : Option Addr} {n c n2 c2 : Nat} {T : TypeId} {fr : Nat × Nat} (h : w.heap[B]? = some (.cells #[.int .i64 x, .slice a n c] T fr)) : ((w.setCell ⟨B, 0, none⟩ (.int .i64 y)).setCell ⟨B, 1, none⟩ (.slice b n2 c2)).cell? ⟨B, 0, none⟩ = some (.int .i64 y) := by
  have hc : w.cell? ⟨B, 0, none⟩ = some (.int .i64 x) := by rw [World.cell?, h]; rfl
  have hB := block_lt hc
  simp [go_sem, hc]
theorem ins_set1 {w : World} {B : Nat} {x y : Int} {a b : Option Addr} {n c n2 c2 : Nat} {T : TypeId} {fr : Nat × Nat} (h : w.heap[B]? = some (.cells #[.int .i64 x, .slice a n c] T fr)) : ((w.setCell ⟨B, 0, none⟩ (.int .i64 y)).setCell ⟨B, 1, none⟩ (.slice b n2 c2)).cell? ⟨B, 1, none⟩ = some (.slice b n2 c2) := by
  have hc : w.cell? ⟨B, 1, none⟩ = some (.slice a n c) := by rw [World.cell?, h]; rfl
  have hB := block_lt hc
  simp [go_sem, hc]
theorem ins_no {w : World} {B : Nat} {x : Int} {a : Option Addr} {n c : Nat} {T : TypeId} {fr : Nat × Nat} (h : w.heap[B]? = some (.cells #[.int .i64 x, .slice a n c] T fr)) {o : Nat} {k k' : IntKind} {m m' : Int} (h1 : w.cell? ⟨B, o, none⟩ = some (.int k m)) (h2 : w.cell? ⟨B, o + 1, none⟩ = some (.int k' m')) : False := by
  rw [World.cell?, h] at h1 h2
  rcases o with _ | _ | o <;> simp at h1 h2
theorem pairs_far2 {w w' : World} {a : Option Addr} {l : List (Int × Int)} (h : PairsS w a l) (B : Nat) (hB : ∀ o k n k' n', w.cell? ⟨B, o, none⟩ = some (.int k n) → w.cell? ⟨B, o + 1, none⟩ = some (.int k' n') → False) (hf : ∀ b, b ≠ B → w'.heap[b]? = w.heap[b]?) : PairsS w' a l := by
  obtain ⟨h0, h1, blk, off, h2, h3⟩ := h
  refine ⟨h0, h1, blk, off, h2, fun i hi => ?_⟩
  obtain ⟨c0, c1⟩ := h3 i hi
  have hb := hf blk (by rintro rfl; exact hB _ _ _ _ _ c0 c1)
  exact ⟨(World.cell?_of_block (w := w) (w' := w') (a := ⟨blk, off + i * 2, none⟩) hb).trans c0, (World.cell?_of_block (w := w) (w' := w') (a := ⟨blk, off + i * 2 + 1, none⟩) hb).trans c1⟩
theorem pst_far2 {w w' : World} {a : Option Addr} {l : List Pst} (h : PstS w a l) (B : Nat) (hB : ∀ o k n k' n', w.cell? ⟨B, o, none⟩ = some (.int k n) → w.cell? ⟨B, o + 1, none⟩ = some (.int k' n') → False) (hf : ∀ b, b ≠ B → w'.heap[b]? = w.heap[b]?) : PstS w' a l := by
  obtain ⟨h0, blk, off, ad, cp, h2, h3⟩ := h
  refine ⟨h0, blk, off, ad, cp, h2, fun i hi => ?_⟩
  obtain ⟨⟨⟨c0, c1, c2, c3, c4, c5, c6, c7⟩, c8, c9, c10, c11⟩, hp⟩ := h3 i hi
  have hb := hf blk (by rintro rfl; exact hB _ _ _ _ _ c0 c1)
  have t : ∀ o v, w.cell? ⟨blk, o, none⟩ = some v → w'.cell? ⟨blk, o, none⟩ = some v := fun o v hc => (World.cell?_of_block (w := w) (w' := w') (a := ⟨blk, o, none⟩) hb).trans hc
  exact ⟨⟨⟨t _ _ c0, t _ _ c1, t _ _ c2, t _ _ c3, t _ _ c4, t _ _ c5, t _ _ c6, t _ _ c7⟩, t _ _ c8, t _ _ c9, t _ _ c10, t _ _ c11⟩, pairs_far2 hp B hB hf⟩
theorem app_faults {ops : Array Oper} {rest : List Oper} {o : Oper} {a : Act} {Q : Exit → Act → World → Prop} (w : World) (hgd : o.guard = none) (s x : Operand)
    (ho : o.op = .call { callee := .builtin .append, args := #[s, x], argTypes := #[54, 54] })
    (base : Nat) (b : Option Addr) (n c : Nat) (xs : List Value) (hs : a.eval s = .slice b n c) (hown : w.ownsRow base 111 2 (.slice b n c) n xs)
    (b2 : Nat) (ax : Option Addr) (l : List Flt) (cx : Nat) (hx : a.eval x = .slice ax l.length cx) (hP : w.ownsRow b2 111 2 (.slice ax l.length cx) l.length (cl2 l)) (hlen : n + l.length ≤ 100000000) (hbase : base ≤ w.heap.size)
    (h : ∀ b' c' w', w'.ownsRow base 111 2 (.slice b' (n + l.length) c') (n + l.length) (xs ++ cl2 l) → Below base w w' → wpList Tryz.prog ops Q rest (a.put o.dst (.slice b' (n + l.length) c')) w') : wpList Tryz.prog ops Q (o :: rest) a w := by
  obtain ⟨n0, hi, hz0, hz1, hz2⟩ := info_parts infoF
  by_cases h0 : l.length = 0
  · have hl := List.eq_nil_of_length_eq_zero h0
    subst hl
    refine wpList_append_zed hgd s x 54 ho base 111 n0 2 Tryz.underlying54 hi (.slice b n c) n xs hs hown ax cx hx ?_
    have := h b c w (by rw [show cl2 [] = [] from rfl, List.append_nil]; exact hown) (Below.refl _ _)
    exact this
  · obtain ⟨g, c2, h1, -, -⟩ := World.ownsRow.form hP (by omega)
    obtain ⟨rfl, rfl⟩ : ax = some ⟨g, 0, none⟩ ∧ cx = c2 := by simpa using h1
    refine wpList_append_lies w hgd s x 54 ho base 111 n0 _ 2 16 Tryz.underlying54 hi hz0 hz1 hz2 rfl (by decide) (.slice b n c) n xs hs hown ⟨g, 0, none⟩ l.length cx (cl2 l) hx (by rw [cl2_len]) (fun j u hu => ?_) (cl2_one l) (by omega) (by unfold maxLen; omega) (by omega) hbase _ rfl ?_
    · have hj : j < l.length * 2 := by rw [← cl2_len]; exact (List.getElem?_eq_some_iff.1 hu).1
      rw [Addr.add_lit, Nat.zero_add]
      exact (World.ownsRow.cellAt hP j hj).trans hu
    · intro g cap w' h1 h2 _ _
      exact h _ _ _ h1 ((Below.refl _ _).grown h2 hbase (fun z hz => owns_blockI hown hz))
set_option maxRecDepth 100000 in
set_option maxHeartbeats 4000000 in
theorem Faults_good (L : Int) (a : Option Addr) (js : List Int) (ca : Nat) (aa : Option Addr) (l : List Sgn) (cl : Nat) (h : Int) (hV : lstE L js l [] = 0) (h0 : btw h 0 10000000 = true) (w : World) (hI : IntsS w a js) (hA : SgnS w aa l) :
    Calls Tryz.prog 31 #[.agg #[.int .i64 L, .slice a js.length ca], .slice aa l.length cl, .int .i64 h] w (FauE L js h l w) := by
  obtain ⟨hLb, hJ, hC, hn⟩ := lst_good hV
  have hns := (sgn_nums (lst_sgns hV)).1
  have H1 := Lib.hid (fun W (hW : Below w.heap.size w W) => by
    have := listsError_r L a js ca aa l cl none [] 0 W (hI.below hW) (hA.below hW) (ed_nilR W)
    rw [hV] at this
    exact this)
  have K0 := Lib.hid (fun W => h0 ▸ isHour_r h W)
  have HR := Lib.hid (fun dir W (hW : Below w.heap.size w W) => (rowOf_r L a js ca aa l cl h dir hLb.1 hLb.2 hJ (fun j hj => by have := hC j hj; omega) hn W (hI.below hW) (hA.below hW)).mono fun e w' H => rowF_of hLb.1 hLb.2 hJ hC H)
  have HBd := Lib.hid (fun dir row (H : RowL L js dir h l row) => rowL_bd hLb.1 hLb.2 hC H)
  have HLb := Lib.hid hLb
  have HN := Lib.hid hn
  have HFn := Lib.hid (fun M (H : FltM L js h l 2 M) => fltM_n hns H)
  clear hI hA hV h0 hJ hC hLb hn hns
  go_enter Tryz.func31, Tryz.ntmps31
  go_wp2_with fail
  obtain ⟨wB, hwB⟩ : ∃ wB, w.alloc (.cells #[.int .i64 L, .slice a js.length ca] 24) = wB := ⟨_, rfl⟩
  have hb : Below w.heap.size w wB := by rw [← hwB]; exact (Below.refl _ _).alloc (Nat.le_refl _) _
  have l0 : wB.cell? ⟨w.heap.size, 0, none⟩ = some (.int .i64 L) := by rw [← hwB]; simp [go_sem]
  have l1 : wB.cell? ⟨w.heap.size, 1, none⟩ = some (.slice a js.length ca) := by rw [← hwB]; simp [go_sem]
  rw [hwB]
  clear hwB
  go_wp2_with (first | (go_at_call 44; refine (H1.out _ hb).mono ?_; rintro e w1 ⟨rfl, hb1⟩; replace hb := hb.trans (hb1.mono hb.size); replace l0 := cell_below l0 hb1; replace l1 := cell_below l1 hb1; clear hb1) | (go_at_call 45; refine (K0.out _).mono ?_; rintro e w2 ⟨rfl, rfl⟩))
  have HB := Lib.hid hb
  have L0 := Lib.hid l0
  have L1 := Lib.hid l1
  obtain ⟨wo, rfl⟩ : ∃ wo : World, wo = w1 := ⟨_, rfl⟩
  clear hb l0 l1 H1 K0
  go_loopw [9, 23] (fun v i9 wr => ∃ (k : Nat) (M : List Flt), k ≤ 2 ∧ i9 = .int .i64 k ∧ (∃ a c, v = .slice a M.length c) ∧ Hid (wr.ownsRow wo.heap.size 111 2 v M.length (cl2 M)) ∧ Hid (FltM L js h l k M) ∧ M.length ≤ 1000 * k ∧ Below wo.heap.size wo wr) (fun _ i9 _ => 2 - (intOf i9).toNat)
  case atStart => exact ⟨0, [], by omega, rfl, ⟨none, 0, rfl⟩, Lib.hid ⟨rfl, .inl ⟨rfl, rfl⟩⟩, Lib.hid rfl, by simp, Below.refl _ _⟩
  case round =>
    obtain ⟨k, M, hk, rfl, ⟨av, cv, rfl⟩, HRow, HM, hMl, hbr⟩ := hrel
    have hbw := HB.out.trans (hbr.mono HB.out.size)
    have hz0 := block_lt (cell_below L0.out hbr)
    have i0 : ∀ w, (Instr.index 104 (.agg #[.int .i64 1, .int .i64 (-1)]) (.int .i64 0)).run Tryz.prog w = .ok (.int .i64 1) w := fun _ => by kernel_rfl
    have i1 : ∀ w, (Instr.index 104 (.agg #[.int .i64 1, .int .i64 (-1)]) (.int .i64 1)).run Tryz.prog w = .ok (.int .i64 (-1)) w := fun _ => by kernel_rfl
    rcases (by omega : k = 0 ∨ k = 1 ∨ k = 2) with rfl | rfl | rfl
    · skip
      go_upto_region 10 with (fail)
      have HRX := Lib.hid (fun W (hW : Below wr.heap.size wr W) => HR.out 1 W (hbw.trans (hW.mono hbw.size)))
      have l0 := cell_below L0.out hbr
      have l1 := cell_below L1.out hbr
      go_cut [12] (fun v wx => ∃ (g : Nat) (row : List Pst) (ar : Option Addr) (cr : Nat), v = .pointer (some ⟨g, 0, none⟩) ∧ wr.heap.size ≤ g ∧ Hid (InsB L js 1 h l wx g row ar cr) ∧ Below wr.heap.size wr wx)
      case first =>
        refine wp_region_held_drew (S := fun w' => Below wr.heap.size wr w') (by kernel_rfl) ((Below.refl _ _).drew) (fun hHeld => ?_)
        refine takeU (i := 0) (some 26) (.pointer (some ⟨w.heap.size, 0, none⟩)) (by kernel_rfl) (by kernel_rfl) (by kernel_rfl) (by kernel_rfl) (by kernel_rfl) (fun _ => by kernel_rfl) (fun _ _ _ h => h) hHeld ?_
        refine wpAnyH_take (i := 1) (oi := { dst := some 27, op := Go.Op.load 3 (Go.Operand.tmp 26), type := 3, pos := "fault.go:25", after := #[{ on := 0, ground := Go.Ground.data }], guard := none }) (v := .int .i64 L) rfl (by kernel_rfl) (by kernel_rfl) (by kernel_rfl) (fun _ _ _ h => h) (.inl ⟨by kernel_rfl, fun w9 h9 => by
          clear hHeld
          have d0 := (h9.cell (p := ⟨w.heap.size, 0, none⟩) hz0).trans l0
          clear h9
          go_simp⟩) hHeld ?_
        refine wpAnyH_take (i := 2) (oi := { dst := some 28, op := Go.Op.load 24 (Go.Operand.tmp 3), type := 24, pos := "fault.go:25", after := #[], guard := none }) (v := .agg #[.int .i64 L, .slice a js.length ca]) rfl (by kernel_rfl) (by kernel_rfl) (by kernel_rfl) (fun _ _ _ h => h) (.inl ⟨by kernel_rfl, fun w9 h9 => by
          clear hHeld
          have d0 := (h9.cell (p := ⟨w.heap.size, 0, none⟩) hz0).trans l0
          have d1 := (h9.cell (p := ⟨w.heap.size, 1, none⟩) hz0).trans l1
          clear h9
          go_simp⟩) hHeld ?_
        refine takeU (i := 3) (some 29) (.slice aa l.length cl) (by kernel_rfl) (by kernel_rfl) (by kernel_rfl) (by kernel_rfl) (by kernel_rfl) (fun _ => by kernel_rfl) (fun _ _ _ h => h) hHeld ?_
        refine takeU (i := 4) (some 30) (.int .i64 h) (by kernel_rfl) (by kernel_rfl) (by kernel_rfl) (by kernel_rfl) (by kernel_rfl) (fun _ => by kernel_rfl) (fun _ _ _ h => h) hHeld ?_
        refine takeU (i := 5) (some 31) (.int .i64 1) (by kernel_rfl) (by kernel_rfl) (by kernel_rfl) (by kernel_rfl) (by kernel_rfl) (fun _ => by kernel_rfl) (fun _ _ _ h => h) hHeld ?_
        try simp only [Act.put, List.setIfInBounds_toArray, List.set_cons_zero, List.set_cons_succ]
        refine wpAnyH_ready (rs := [6, 8]) (by kernel_rfl) (by simp) ?_
        refine AllReadyH.cons (o := { dst := some 32, op := Go.Op.call { callee := Go.Callee.value (Go.Operand.func 47), args := #[Go.Operand.tmp 28, Go.Operand.tmp 29, Go.Operand.tmp 30, Go.Operand.tmp 31], argTypes := #[24, 25, 3, 3] }, type := 79, pos := "fault.go:25", after := #[{ on := 2, ground := Go.Ground.data }, { on := 3, ground := Go.Ground.data }, { on := 4, ground := Go.Ground.data }, { on := 5, ground := Go.Ground.data }], guard := none }) rfl (fun K hK => ?_) (AllReadyH.cons (o := { dst := some 12, op := Go.Op.alloc 106, type := 0, pos := "fault.go:25", after := #[], guard := none }) rfl (fun K hK => ?_) AllReadyH.nil)
        · go_simp
          go_at_call 47
          refine (HRX.out _ hHeld).mono ?_
          rintro e w69 ⟨row, ar, cr, hRL, hrl, hbd, rfl, hP, hb69⟩
          have HP := Lib.hid hP
          have HRL := Lib.hid hRL
          have HRl := Lib.hid hrl
          clear hP hRL hbd hrl
          refine hK.out _ _ (hHeld.trans (hb69.mono hHeld.size)) (fun hHeld => ?_)
          clear hK K hb69
          try simp only [Act.put, List.setIfInBounds_toArray, List.set_cons_zero, List.set_cons_succ]
          refine takeU (i := 7) (some 33) (.agg #[.int .i64 L, .slice ar row.length cr]) (by kernel_rfl) (by kernel_rfl) (by kernel_rfl) (by kernel_rfl) (by kernel_rfl) (fun _ => by kernel_rfl) (fun _ _ _ h => h) hHeld ?_
          try simp only [Act.put, List.setIfInBounds_toArray, List.set_cons_zero, List.set_cons_succ]
          refine wpAnyH_ready (rs := [8]) (by kernel_rfl) (by simp) ?_
          refine AllReadyH.cons (o := { dst := some 12, op := Go.Op.alloc 106, type := 0, pos := "fault.go:25", after := #[], guard := none }) rfl (fun K hK => ?_) AllReadyH.nil
          go_simp
          have hA0 := hHeld
          refine hK.out _ _ (hHeld.alloc hHeld.size _) (fun hHeld => ?_)
          clear hK K
          try simp only [Act.put, List.setIfInBounds_toArray, List.set_cons_zero, List.set_cons_succ]
          try simp only [Act.put, List.setIfInBounds_toArray, List.set_cons_zero, List.set_cons_succ]
          refine wpAnyH_ready (rs := [9]) (by kernel_rfl) (by simp) ?_
          refine AllReadyH.cons (o := { dst := none, op := Go.Op.store 106 (Go.Operand.tmp 12) (Go.Operand.tmp 33), type := 0, pos := "fault.go:25", after := #[{ on := 8, ground := Go.Ground.data }, { on := 7, ground := Go.Ground.data }, { on := 6, ground := Go.Ground.chain }, { on := 0, ground := Go.Ground.phase }, { on := 1, ground := Go.Ground.phase }, { on := 2, ground := Go.Ground.phase }, { on := 3, ground := Go.Ground.phase }, { on := 4, ground := Go.Ground.phase }, { on := 5, ground := Go.Ground.phase }, { on := 6, ground := Go.Ground.phase }, { on := 7, ground := Go.Ground.phase }, { on := 8, ground := Go.Ground.phase }], guard := none }) rfl (fun K hK => ?_) AllReadyH.nil
          go_simp
          refine hK.out _ _ (hA0.alloc hA0.size _) (fun hHeld => ?_)
          clear hK K
          try simp only [Act.put, List.setIfInBounds_toArray, List.set_cons_zero, List.set_cons_succ]
          refine wpAnyH_done (by kernel_rfl) ?_ _
          try simp only [Act.put, List.setIfInBounds_toArray, List.set_cons_zero, List.set_cons_succ]
          go_wp2_with fail
          go_meet
          exact ⟨w69.heap.size, row, ar, cr, rfl, hA0.size, Lib.hid ⟨HRL.out, HRl.out, HP.out.below ((Below.refl _ _).alloc (Nat.le_refl _) _), by simp [go_sem], by simp [go_sem]⟩, hHeld⟩
        · go_simp
          have hA0 := hHeld
          refine hK.out _ _ (hHeld.alloc hHeld.size _) (fun hHeld => ?_)
          clear hK K
          try simp only [Act.put, List.setIfInBounds_toArray, List.set_cons_zero, List.set_cons_succ]
          try simp only [Act.put, List.setIfInBounds_toArray, List.set_cons_zero, List.set_cons_succ]
          refine wpAnyH_ready (rs := [6]) (by kernel_rfl) (by simp) ?_
          refine AllReadyH.cons (o := { dst := some 32, op := Go.Op.call { callee := Go.Callee.value (Go.Operand.func 47), args := #[Go.Operand.tmp 28, Go.Operand.tmp 29, Go.Operand.tmp 30, Go.Operand.tmp 31], argTypes := #[24, 25, 3, 3] }, type := 79, pos := "fault.go:25", after := #[{ on := 2, ground := Go.Ground.data }, { on := 3, ground := Go.Ground.data }, { on := 4, ground := Go.Ground.data }, { on := 5, ground := Go.Ground.data }], guard := none }) rfl (fun K hK => ?_) AllReadyH.nil
          go_simp
          go_at_call 47
          refine (HRX.out _ hHeld).mono ?_
          rintro e w69 ⟨row, ar, cr, hRL, hrl, hbd, rfl, hP, hb69⟩
          have HP := Lib.hid hP
          have HRL := Lib.hid hRL
          have HRl := Lib.hid hrl
          clear hP hRL hbd hrl
          have a0 := cell_below (show (wr.drew.alloc (.cells #[.int .i64 0, .slice none 0 0] 106)).cell? ⟨wr.heap.size, 0, none⟩ = some (.int .i64 0) from by simp [go_sem]) hb69
          have a1 := cell_below (show (wr.drew.alloc (.cells #[.int .i64 0, .slice none 0 0] 106)).cell? ⟨wr.heap.size, 1, none⟩ = some (.slice none 0 0) from by simp [go_sem]) hb69
          have f0 := (hb69.frozen (p := ⟨wr.heap.size, 0, none⟩) (by simp)).trans (show (wr.drew.alloc (.cells #[.int .i64 0, .slice none 0 0] 106)).frozen? ⟨wr.heap.size, 0, none⟩ = false from by simp [go_sem])
          have f1 := (hb69.frozen (p := ⟨wr.heap.size, 1, none⟩) (by simp)).trans (show (wr.drew.alloc (.cells #[.int .i64 0, .slice none 0 0] 106)).frozen? ⟨wr.heap.size, 1, none⟩ = false from by simp [go_sem])
          have HBk := Lib.hid ((hb69.block wr.heap.size (by simp)).trans (show (wr.drew.alloc (.cells #[.int .i64 0, .slice none 0 0] 106)).heap[wr.heap.size]? = some (.cells #[.int .i64 0, .slice none 0 0] 106) from by have := heap_alloc_new wr.drew (.cells #[.int .i64 0, .slice none 0 0] 106); simpa using this))
          refine hK.out _ _ (hHeld.trans (hb69.mono hHeld.size)) (fun hHeld => ?_)
          clear hK K hb69
          try simp only [Act.put, List.setIfInBounds_toArray, List.set_cons_zero, List.set_cons_succ]
          refine takeU (i := 7) (some 33) (.agg #[.int .i64 L, .slice ar row.length cr]) (by kernel_rfl) (by kernel_rfl) (by kernel_rfl) (by kernel_rfl) (by kernel_rfl) (fun _ => by kernel_rfl) (fun _ _ _ h => h) hHeld ?_
          try simp only [Act.put, List.setIfInBounds_toArray, List.set_cons_zero, List.set_cons_succ]
          refine wpAnyH_ready (rs := [9]) (by kernel_rfl) (by simp) ?_
          refine AllReadyH.cons (o := { dst := none, op := Go.Op.store 106 (Go.Operand.tmp 12) (Go.Operand.tmp 33), type := 0, pos := "fault.go:25", after := #[{ on := 8, ground := Go.Ground.data }, { on := 7, ground := Go.Ground.data }, { on := 6, ground := Go.Ground.chain }, { on := 0, ground := Go.Ground.phase }, { on := 1, ground := Go.Ground.phase }, { on := 2, ground := Go.Ground.phase }, { on := 3, ground := Go.Ground.phase }, { on := 4, ground := Go.Ground.phase }, { on := 5, ground := Go.Ground.phase }, { on := 6, ground := Go.Ground.phase }, { on := 7, ground := Go.Ground.phase }, { on := 8, ground := Go.Ground.phase }], guard := none }) rfl (fun K hK => ?_) AllReadyH.nil
          go_simp
          refine hK.out _ _ ((hHeld.setCell (p := ⟨wr.heap.size, 0, none⟩) (Nat.le_refl _) _).setCell (p := ⟨wr.heap.size, 1, none⟩) (Nat.le_refl _) _) (fun hHeld => ?_)
          clear hK K
          try simp only [Act.put, List.setIfInBounds_toArray, List.set_cons_zero, List.set_cons_succ]
          refine wpAnyH_done (by kernel_rfl) ?_ _
          try simp only [Act.put, List.setIfInBounds_toArray, List.set_cons_zero, List.set_cons_succ]
          clear a0 a1 f0 f1
          go_wp2_with fail
          go_meet
          exact ⟨wr.heap.size, row, ar, cr, rfl, Nat.le_refl _, Lib.hid ⟨HRL.out, HRl.out, pst_far2 HP.out wr.heap.size (fun o k n k2 n2 => ins_no HBk.out) (fun b hb => (Below.heap_setCell _ _ _ _ (by simpa using hb)).trans (Below.heap_setCell _ _ _ _ (by simpa using hb))), ins_set0 HBk.out, ins_set1 HBk.out⟩, hHeld⟩
      case rest =>
        obtain ⟨g, row, ar, cr, rfl, hg, HI, hbc⟩ := hcut
        obtain ⟨hRL, hrl, hP, g0, g1⟩ := HI.out
        have hbd := HBd.out 1 row hRL
        have HP := Lib.hid hP
        have hrn : row.length ≤ 1000 := by have := HN.out; omega
        have HFa := Lib.hid (faulty_r L ar row cr HLb.out hbd hrn wc hP)
        have HFl := Lib.hid (fltK_len L row row.length)
        have HMm := HM
        have HNew : Hid (FltM L js h l (0 + 1) (fltK L row row.length)) := Lib.hid (⟨row, hRL, rfl⟩)
        have HRow := Lib.hid (owns_belowI HRow.out hbc)
        have hbx := hbr.trans (hbc.mono hbr.size)
        clear hP hRL hbd HI HRX
        obtain ⟨D, hD⟩ : ∃ D, fltK L row row.length = D := ⟨_, rfl⟩
        rw [hD] at HFa HFl HNew
        clear hD
        have hDl : D.length ≤ 1000 := by have := HFl.out; omega
        go_wp2_with (first | (go_at_call 64; refine HFa.out.mono ?_; rintro e w7 ⟨b7, c7, rfl, hD7, hb7⟩; have HD7 := Lib.hid hD7; have HRow7 := Lib.hid (owns_belowI HRow.out hb7); have hb7w := hbx.trans (hb7.mono hbx.size); clear hD7 hb7) | (at_builtin; go_loud (refine app_faults _ rfl _ _ rfl wo.heap.size av M.length cv (cl2 M) (by rfl) HRow7.out wc.heap.size b7 D c7 (by rfl) HD7.out (by omega) hb7w.size ?_)))
        intro b8 c8 w8 hown8 hb8
        have HO8 := Lib.hid hown8
        have hb8w := hb7w.trans hb8
        clear hown8 hb8
        go_wp2_with fail
        go_roundw
        case rel => exact ⟨0 + 1, M ++ D, by omega, by go_num, ⟨b8, c8, by rw [List.length_append]⟩, Lib.hid (by rw [List.length_append, cl2_app]; exact HO8.out), Lib.hid (by rw [show M = [] from HM.out]; exact HNew.out), by rw [List.length_append]; omega, hb8w⟩
        case measure => simp [intOf]
    · skip
      go_upto_region 10 with (fail)
      have HRX := Lib.hid (fun W (hW : Below wr.heap.size wr W) => HR.out (-1) W (hbw.trans (hW.mono hbw.size)))
      have l0 := cell_below L0.out hbr
      have l1 := cell_below L1.out hbr
      go_cut [12] (fun v wx => ∃ (g : Nat) (row : List Pst) (ar : Option Addr) (cr : Nat), v = .pointer (some ⟨g, 0, none⟩) ∧ wr.heap.size ≤ g ∧ Hid (InsB L js (-1) h l wx g row ar cr) ∧ Below wr.heap.size wr wx)
      case first =>
        refine wp_region_held_drew (S := fun w' => Below wr.heap.size wr w') (by kernel_rfl) ((Below.refl _ _).drew) (fun hHeld => ?_)
        refine takeU (i := 0) (some 26) (.pointer (some ⟨w.heap.size, 0, none⟩)) (by kernel_rfl) (by kernel_rfl) (by kernel_rfl) (by kernel_rfl) (by kernel_rfl) (fun _ => by kernel_rfl) (fun _ _ _ h => h) hHeld ?_
        refine wpAnyH_take (i := 1) (oi := { dst := some 27, op := Go.Op.load 3 (Go.Operand.tmp 26), type := 3, pos := "fault.go:25", after := #[{ on := 0, ground := Go.Ground.data }], guard := none }) (v := .int .i64 L) rfl (by kernel_rfl) (by kernel_rfl) (by kernel_rfl) (fun _ _ _ h => h) (.inl ⟨by kernel_rfl, fun w9 h9 => by
          clear hHeld
          have d0 := (h9.cell (p := ⟨w.heap.size, 0, none⟩) hz0).trans l0
          clear h9
          go_simp⟩) hHeld ?_
        refine wpAnyH_take (i := 2) (oi := { dst := some 28, op := Go.Op.load 24 (Go.Operand.tmp 3), type := 24, pos := "fault.go:25", after := #[], guard := none }) (v := .agg #[.int .i64 L, .slice a js.length ca]) rfl (by kernel_rfl) (by kernel_rfl) (by kernel_rfl) (fun _ _ _ h => h) (.inl ⟨by kernel_rfl, fun w9 h9 => by
          clear hHeld
          have d0 := (h9.cell (p := ⟨w.heap.size, 0, none⟩) hz0).trans l0
          have d1 := (h9.cell (p := ⟨w.heap.size, 1, none⟩) hz0).trans l1
          clear h9
          go_simp⟩) hHeld ?_
        refine takeU (i := 3) (some 29) (.slice aa l.length cl) (by kernel_rfl) (by kernel_rfl) (by kernel_rfl) (by kernel_rfl) (by kernel_rfl) (fun _ => by kernel_rfl) (fun _ _ _ h => h) hHeld ?_
        refine takeU (i := 4) (some 30) (.int .i64 h) (by kernel_rfl) (by kernel_rfl) (by kernel_rfl) (by kernel_rfl) (by kernel_rfl) (fun _ => by kernel_rfl) (fun _ _ _ h => h) hHeld ?_
        refine takeU (i := 5) (some 31) (.int .i64 (-1)) (by kernel_rfl) (by kernel_rfl) (by kernel_rfl) (by kernel_rfl) (by kernel_rfl) (fun _ => by kernel_rfl) (fun _ _ _ h => h) hHeld ?_
        try simp only [Act.put, List.setIfInBounds_toArray, List.set_cons_zero, List.set_cons_succ]
        refine wpAnyH_ready (rs := [6, 8]) (by kernel_rfl) (by simp) ?_
        refine AllReadyH.cons (o := { dst := some 32, op := Go.Op.call { callee := Go.Callee.value (Go.Operand.func 47), args := #[Go.Operand.tmp 28, Go.Operand.tmp 29, Go.Operand.tmp 30, Go.Operand.tmp 31], argTypes := #[24, 25, 3, 3] }, type := 79, pos := "fault.go:25", after := #[{ on := 2, ground := Go.Ground.data }, { on := 3, ground := Go.Ground.data }, { on := 4, ground := Go.Ground.data }, { on := 5, ground := Go.Ground.data }], guard := none }) rfl (fun K hK => ?_) (AllReadyH.cons (o := { dst := some 12, op := Go.Op.alloc 106, type := 0, pos := "fault.go:25", after := #[], guard := none }) rfl (fun K hK => ?_) AllReadyH.nil)
        · go_simp
          go_at_call 47
          refine (HRX.out _ hHeld).mono ?_
          rintro e w69 ⟨row, ar, cr, hRL, hrl, hbd, rfl, hP, hb69⟩
          have HP := Lib.hid hP
          have HRL := Lib.hid hRL
          have HRl := Lib.hid hrl
          clear hP hRL hbd hrl
          refine hK.out _ _ (hHeld.trans (hb69.mono hHeld.size)) (fun hHeld => ?_)
          clear hK K hb69
          try simp only [Act.put, List.setIfInBounds_toArray, List.set_cons_zero, List.set_cons_succ]
          refine takeU (i := 7) (some 33) (.agg #[.int .i64 L, .slice ar row.length cr]) (by kernel_rfl) (by kernel_rfl) (by kernel_rfl) (by kernel_rfl) (by kernel_rfl) (fun _ => by kernel_rfl) (fun _ _ _ h => h) hHeld ?_
          try simp only [Act.put, List.setIfInBounds_toArray, List.set_cons_zero, List.set_cons_succ]
          refine wpAnyH_ready (rs := [8]) (by kernel_rfl) (by simp) ?_
          refine AllReadyH.cons (o := { dst := some 12, op := Go.Op.alloc 106, type := 0, pos := "fault.go:25", after := #[], guard := none }) rfl (fun K hK => ?_) AllReadyH.nil
          go_simp
          have hA0 := hHeld
          refine hK.out _ _ (hHeld.alloc hHeld.size _) (fun hHeld => ?_)
          clear hK K
          try simp only [Act.put, List.setIfInBounds_toArray, List.set_cons_zero, List.set_cons_succ]
          try simp only [Act.put, List.setIfInBounds_toArray, List.set_cons_zero, List.set_cons_succ]
          refine wpAnyH_ready (rs := [9]) (by kernel_rfl) (by simp) ?_
          refine AllReadyH.cons (o := { dst := none, op := Go.Op.store 106 (Go.Operand.tmp 12) (Go.Operand.tmp 33), type := 0, pos := "fault.go:25", after := #[{ on := 8, ground := Go.Ground.data }, { on := 7, ground := Go.Ground.data }, { on := 6, ground := Go.Ground.chain }, { on := 0, ground := Go.Ground.phase }, { on := 1, ground := Go.Ground.phase }, { on := 2, ground := Go.Ground.phase }, { on := 3, ground := Go.Ground.phase }, { on := 4, ground := Go.Ground.phase }, { on := 5, ground := Go.Ground.phase }, { on := 6, ground := Go.Ground.phase }, { on := 7, ground := Go.Ground.phase }, { on := 8, ground := Go.Ground.phase }], guard := none }) rfl (fun K hK => ?_) AllReadyH.nil
          go_simp
          refine hK.out _ _ (hA0.alloc hA0.size _) (fun hHeld => ?_)
          clear hK K
          try simp only [Act.put, List.setIfInBounds_toArray, List.set_cons_zero, List.set_cons_succ]
          refine wpAnyH_done (by kernel_rfl) ?_ _
          try simp only [Act.put, List.setIfInBounds_toArray, List.set_cons_zero, List.set_cons_succ]
          go_wp2_with fail
          go_meet
          exact ⟨w69.heap.size, row, ar, cr, rfl, hA0.size, Lib.hid ⟨HRL.out, HRl.out, HP.out.below ((Below.refl _ _).alloc (Nat.le_refl _) _), by simp [go_sem], by simp [go_sem]⟩, hHeld⟩
        · go_simp
          have hA0 := hHeld
          refine hK.out _ _ (hHeld.alloc hHeld.size _) (fun hHeld => ?_)
          clear hK K
          try simp only [Act.put, List.setIfInBounds_toArray, List.set_cons_zero, List.set_cons_succ]
          try simp only [Act.put, List.setIfInBounds_toArray, List.set_cons_zero, List.set_cons_succ]
          refine wpAnyH_ready (rs := [6]) (by kernel_rfl) (by simp) ?_
          refine AllReadyH.cons (o := { dst := some 32, op := Go.Op.call { callee := Go.Callee.value (Go.Operand.func 47), args := #[Go.Operand.tmp 28, Go.Operand.tmp 29, Go.Operand.tmp 30, Go.Operand.tmp 31], argTypes := #[24, 25, 3, 3] }, type := 79, pos := "fault.go:25", after := #[{ on := 2, ground := Go.Ground.data }, { on := 3, ground := Go.Ground.data }, { on := 4, ground := Go.Ground.data }, { on := 5, ground := Go.Ground.data }], guard := none }) rfl (fun K hK => ?_) AllReadyH.nil
          go_simp
          go_at_call 47
          refine (HRX.out _ hHeld).mono ?_
          rintro e w69 ⟨row, ar, cr, hRL, hrl, hbd, rfl, hP, hb69⟩
          have HP := Lib.hid hP
          have HRL := Lib.hid hRL
          have HRl := Lib.hid hrl
          clear hP hRL hbd hrl
          have a0 := cell_below (show (wr.drew.alloc (.cells #[.int .i64 0, .slice none 0 0] 106)).cell? ⟨wr.heap.size, 0, none⟩ = some (.int .i64 0) from by simp [go_sem]) hb69
          have a1 := cell_below (show (wr.drew.alloc (.cells #[.int .i64 0, .slice none 0 0] 106)).cell? ⟨wr.heap.size, 1, none⟩ = some (.slice none 0 0) from by simp [go_sem]) hb69
          have f0 := (hb69.frozen (p := ⟨wr.heap.size, 0, none⟩) (by simp)).trans (show (wr.drew.alloc (.cells #[.int .i64 0, .slice none 0 0] 106)).frozen? ⟨wr.heap.size, 0, none⟩ = false from by simp [go_sem])
          have f1 := (hb69.frozen (p := ⟨wr.heap.size, 1, none⟩) (by simp)).trans (show (wr.drew.alloc (.cells #[.int .i64 0, .slice none 0 0] 106)).frozen? ⟨wr.heap.size, 1, none⟩ = false from by simp [go_sem])
          have HBk := Lib.hid ((hb69.block wr.heap.size (by simp)).trans (show (wr.drew.alloc (.cells #[.int .i64 0, .slice none 0 0] 106)).heap[wr.heap.size]? = some (.cells #[.int .i64 0, .slice none 0 0] 106) from by have := heap_alloc_new wr.drew (.cells #[.int .i64 0, .slice none 0 0] 106); simpa using this))
          refine hK.out _ _ (hHeld.trans (hb69.mono hHeld.size)) (fun hHeld => ?_)
          clear hK K hb69
          try simp only [Act.put, List.setIfInBounds_toArray, List.set_cons_zero, List.set_cons_succ]
          refine takeU (i := 7) (some 33) (.agg #[.int .i64 L, .slice ar row.length cr]) (by kernel_rfl) (by kernel_rfl) (by kernel_rfl) (by kernel_rfl) (by kernel_rfl) (fun _ => by kernel_rfl) (fun _ _ _ h => h) hHeld ?_
          try simp only [Act.put, List.setIfInBounds_toArray, List.set_cons_zero, List.set_cons_succ]
          refine wpAnyH_ready (rs := [9]) (by kernel_rfl) (by simp) ?_
          refine AllReadyH.cons (o := { dst := none, op := Go.Op.store 106 (Go.Operand.tmp 12) (Go.Operand.tmp 33), type := 0, pos := "fault.go:25", after := #[{ on := 8, ground := Go.Ground.data }, { on := 7, ground := Go.Ground.data }, { on := 6, ground := Go.Ground.chain }, { on := 0, ground := Go.Ground.phase }, { on := 1, ground := Go.Ground.phase }, { on := 2, ground := Go.Ground.phase }, { on := 3, ground := Go.Ground.phase }, { on := 4, ground := Go.Ground.phase }, { on := 5, ground := Go.Ground.phase }, { on := 6, ground := Go.Ground.phase }, { on := 7, ground := Go.Ground.phase }, { on := 8, ground := Go.Ground.phase }], guard := none }) rfl (fun K hK => ?_) AllReadyH.nil
          go_simp
          refine hK.out _ _ ((hHeld.setCell (p := ⟨wr.heap.size, 0, none⟩) (Nat.le_refl _) _).setCell (p := ⟨wr.heap.size, 1, none⟩) (Nat.le_refl _) _) (fun hHeld => ?_)
          clear hK K
          try simp only [Act.put, List.setIfInBounds_toArray, List.set_cons_zero, List.set_cons_succ]
          refine wpAnyH_done (by kernel_rfl) ?_ _
          try simp only [Act.put, List.setIfInBounds_toArray, List.set_cons_zero, List.set_cons_succ]
          clear a0 a1 f0 f1
          go_wp2_with fail
          go_meet
          exact ⟨wr.heap.size, row, ar, cr, rfl, Nat.le_refl _, Lib.hid ⟨HRL.out, HRl.out, pst_far2 HP.out wr.heap.size (fun o k n k2 n2 => ins_no HBk.out) (fun b hb => (Below.heap_setCell _ _ _ _ (by simpa using hb)).trans (Below.heap_setCell _ _ _ _ (by simpa using hb))), ins_set0 HBk.out, ins_set1 HBk.out⟩, hHeld⟩
      case rest =>
        obtain ⟨g, row, ar, cr, rfl, hg, HI, hbc⟩ := hcut
        obtain ⟨hRL, hrl, hP, g0, g1⟩ := HI.out
        have hbd := HBd.out (-1) row hRL
        have HP := Lib.hid hP
        have hrn : row.length ≤ 1000 := by have := HN.out; omega
        have HFa := Lib.hid (faulty_r L ar row cr HLb.out hbd hrn wc hP)
        have HFl := Lib.hid (fltK_len L row row.length)
        have HMm := HM
        have HNew : Hid (FltM L js h l (1 + 1) (M ++ fltK L row row.length)) := Lib.hid (by obtain ⟨r1, hr1, e1⟩ := HM.out; exact ⟨r1, row, hr1, hRL, by rw [e1]⟩)
        have HRow := Lib.hid (owns_belowI HRow.out hbc)
        have hbx := hbr.trans (hbc.mono hbr.size)
        clear hP hRL hbd HI HRX
        obtain ⟨D, hD⟩ : ∃ D, fltK L row row.length = D := ⟨_, rfl⟩
        rw [hD] at HFa HFl HNew
        clear hD
        have hDl : D.length ≤ 1000 := by have := HFl.out; omega
        go_wp2_with (first | (go_at_call 64; refine HFa.out.mono ?_; rintro e w7 ⟨b7, c7, rfl, hD7, hb7⟩; have HD7 := Lib.hid hD7; have HRow7 := Lib.hid (owns_belowI HRow.out hb7); have hb7w := hbx.trans (hb7.mono hbx.size); clear hD7 hb7) | (at_builtin; go_loud (refine app_faults _ rfl _ _ rfl wo.heap.size av M.length cv (cl2 M) (by rfl) HRow7.out wc.heap.size b7 D c7 (by rfl) HD7.out (by omega) hb7w.size ?_)))
        intro b8 c8 w8 hown8 hb8
        have HO8 := Lib.hid hown8
        have hb8w := hb7w.trans hb8
        clear hown8 hb8
        go_wp2_with fail
        go_roundw
        case rel => exact ⟨1 + 1, M ++ D, by omega, by go_num, ⟨b8, c8, by rw [List.length_append]⟩, Lib.hid (by rw [List.length_append, cl2_app]; exact HO8.out), Lib.hid (HNew.out), by rw [List.length_append]; omega, hb8w⟩
        case measure => simp [intOf]
    · have HMn := Lib.hid (HFn.out M HM.out)
      have hsr := hbr.size
      have hq9 : ∀ g, av = some ⟨g, 0, none⟩ → g < wr.heap.size := fun g hg => (World.ownsRow.lt HRow.out g (by rw [hg]; rfl)).2
      have HQ9 := Lib.hid hq9
      clear hq9 HR HBd HFn
      go_wp2_with (first | (go_at_call 67; refine (by0F_r wr.heap.size _).mono ?_; rintro e w2 ⟨B, rfl, hBs, cB, hb2⟩; have f0 := cell_below (show World.cell? (wr.alloc (.cells #[.func (.func 68) #[] #[]] _)) (Addr.mk wr.heap.size 0 none) = some (.func (.func 68) #[] #[]) from by simp [go_sem]) hb2; have hb2w := ((Below.refl wr.heap.size wr).alloc (Nat.le_refl _) _).trans (hb2.mono (by simp)); have HRow2 := Lib.hid (owns_belowI HRow.out hb2w); have HF0 := Lib.hid f0; have HCB := Lib.hid cB; have hBs2 : wr.heap.size < B := (by simp at hBs; omega); clear f0 cB hb2 hBs) | (go_at_call 66; refine (sortF_r wo.heap.size B wr.heap.size cv av M w2 HRow2.out (by omega) HCB.out HF0.out (fun g hg => by have := HQ9.out g hg; omega)).mono ?_; rintro e w3 ⟨rfl, S, hS1, hS2, hS3, hb3⟩; have HS := Lib.hid (And.intro hS1 (And.intro hS2 hS3)); have hb3w := hbr.trans ((hb2w.mono hsr).trans hb3); clear hS1 hS2 hS3 hb3))
      go_ret2
      obtain ⟨hS1, hS2, g, hS3, hS4⟩ := HS.out
      have hl := hS1.length_eq
      refine ⟨M, S, av, cv, HM.out, hS1, hS2, by rw [hl]; rfl, ⟨by omega, fun i hi => ?_, g, 0, fun h => hS3 h, fun i hi => by rw [Nat.zero_add]; exact hS4 i hi⟩, HB.out.trans (hb3w.mono HB.out.size)⟩
      have hm : gp S i ∈ S := by unfold gp; rw [List.getD_eq_getElem?_getD, List.getElem?_eq_getElem hi]; exact List.getElem_mem hi
      have := HMn.out _ (hS1.mem_iff.1 hm)
      unfold I64
      omega
end Go.Proofs.YtiagflackfkmnaaGreat

namespace Go.Proofs.YtiagflackfkmnaaGreat
set_option linter.unusedVariables false
set_option linter.unusedSimpArgs false
open Go.RowKit

/-- Does an end end nothing? -/
def idlS (L : Int) (js : List Int) (dir : Int) (R : List Sgn) (s : Sgn) : Bool :=
  (dstK L dir s.c == 0) || !((endB s.k 1 && (hS L js dir 1 (dstK L dir s.c - 1) R 0 != 0)) || (endB s.k 2 && (hS L js dir 2 (dstK L dir s.c - 1) R 0 != 0)))
/-- Is a plate that of the start ahead of it? -/
def minS (R : List Sgn) (i : Nat) : Bool := decide (0 < i) && (((gs R (i - 1)).k == 1 || (gs R (i - 1)).k == 3) && plB R (i - 1))
/-- The fault of sign i of a row, or 0. -/
def codS (L : Int) (js : List Int) (dir : Int) (R : List Sgn) (i : Nat) : Int :=
  if (gs R i).k = 7 then (if minS R i = false ∨ L - dstK L dir (gs R i).c < (gs R i).v then 1 else 0)
  else if (gs R i).k = 6 then (if dstK L dir (gs R i).c = L ∨ hS L js dir 1 (dstK L dir (gs R i).c) R 0 ≠ (gs R i).v then 2 else 0)
  else if (gs R i).k = 2 ∨ (gs R i).k = 4 ∨ (gs R i).k = 5 then (if idlS L js dir R (gs R i) = true then 3 else 0)
  else if (gs R i).k = 1 ∨ (gs R i).k = 3 then (if dstK L dir (gs R i).c = L then 4 else 0) else 0
def fltS (L : Int) (js : List Int) (dir : Int) (R : List Sgn) : Nat → List Flt
  | 0 => []
  | k + 1 => if codS L js dir R k = 0 then fltS L js dir R k else fltS L js dir R k ++ [((gs R k).n, codS L js dir R k)]
theorem topK_ne (k : Int) : (topK k != 0) = (k == 1 || k == 3) := by
  unfold topK
  by_cases h1 : k = 1
  · subst h1; rfl
  · by_cases h3 : k = 3
    · subst h3; rfl
    · simp [h1, h3]
theorem hld_low {t k : Int} : ∀ (row : List Pst) (v : Int), (∀ p, p ∈ row → k < p.d) → hldL t k row v = v
  | [], v, _ => rfl
  | p :: r, v, h => by rw [hldL, if_pos (h p (by simp))]
theorem gs_row (row : List Pst) {i : Nat} (h : i < row.length) : gs (row.map (·.s)) i = (gq row i).s := by
  unfold gs gq; simp [h]
theorem cod_eq {L : Int} {js : List Int} {dir h : Int} {l : List Sgn} {q : List Edc} {row : List Pst} (hV : lstE L js l q = 0) (hd : dirB dir = true) (H : RowL L js dir h l row) (i : Nat) (hi : i < row.length) : codP L row (gq row i) = codS L js dir (insR L dir h l l.length) i := by
  obtain ⟨hn1, hn2⟩ := sgn_nums (lst_sgns hV)
  have hri := row_ins hn2 H
  have hlen : (insR L dir h l l.length).length = row.length := by rw [← hri, List.length_map]
  have hg : ∀ j, j < row.length → gs (insR L dir h l l.length) j = (gq row j).s := fun j hj => by rw [← hri]; exact gs_row row hj
  obtain ⟨e1, ⟨j, hj, e2, -⟩, -, e4⟩ := row_elem H i hi
  have hin := row_in hV hd H i hi
  have hh : ∀ t k : Int, t ≠ 0 → k < L → hldL t k row 0 = hS L js dir t k (insR L dir h l l.length) 0 := fun t k ht hk => hld_ins hn2 ht hk H
  have hlow : ∀ t : Int, hldL t (-1) row 0 = 0 := fun t => hld_low row 0 fun p hp => by
    obtain ⟨m, hm, e⟩ := List.getElem_of_mem hp
    have := (row_in hV hd H m hm).1.1
    have eg : gq row m = p := by unfold gq; simp [hm, e]
    rw [eg] at this
    omega
  unfold codP codS
  rw [hg i hi, ← e1]
  by_cases h7 : (gq row i).s.k = 7
  · rw [if_pos h7, if_pos h7]
    have : (gq row i).b = minS (insR L dir h l l.length) i := by
      rw [e4]
      unfold minS
      by_cases h0 : 0 < i
      · rw [decide_eq_true h0, Bool.true_and, Bool.true_and, hg (i - 1) (by omega), topK_ne]
        unfold plB
        rw [show i - 1 + 1 = i by omega, hlen, hg i hi, hg (i - 1) (by omega), decide_eq_true hi, Bool.true_and, dst_eq]
      · rw [decide_eq_false h0]; rfl
    rw [this]
  · rw [if_neg h7, if_neg h7]
    by_cases h6 : (gq row i).s.k = 6
    · rw [if_pos h6, if_pos h6]
      by_cases hdl : (gq row i).d = L
      · rw [if_pos (.inl hdl), if_pos (.inl hdl)]
      · rw [hh 1 _ (by omega) (by omega)]
    · rw [if_neg h6, if_neg h6]
      by_cases hc : (gq row i).s.k = 2 ∨ (gq row i).s.k = 4 ∨ (gq row i).s.k = 5
      · rw [if_pos hc, if_pos hc]
        have : idlS L js dir (insR L dir h l l.length) (gq row i).s = !(endP row (gq row i) 1 || endP row (gq row i) 2) := by
          unfold idlS endP
          rw [← e1]
          by_cases hd0 : (gq row i).d = 0
          · rw [hd0, show (0 : Int) - 1 = -1 by omega, hlow 1, hlow 2]
            simp
          · have : ((gq row i).d == 0) = false := beq_false_of_ne hd0
            rw [this, Bool.false_or, hh 1 _ (by omega) (by omega), hh 2 _ (by omega) (by omega)]
        rw [this]
        cases (endP row (gq row i) 1 || endP row (gq row i) 2) <;> rfl
      · rw [if_neg hc, if_neg hc]
theorem flt_eq {L : Int} {js : List Int} {dir h : Int} {l : List Sgn} {q : List Edc} {row : List Pst} (hV : lstE L js l q = 0) (hd : dirB dir = true) (H : RowL L js dir h l row) : ∀ k, k ≤ row.length → fltK L row k = fltS L js dir (insR L dir h l l.length) k
  | 0, _ => rfl
  | k + 1, hk => by
    have hri := row_ins (sgn_nums (lst_sgns hV)).2 H
    rw [fltK, fltS, flt_eq hV hd H k (by omega), cod_eq hV hd H k (by omega)]
    have : gs (insR L dir h l l.length) k = (gq row k).s := by rw [← hri]; exact gs_row row (by omega)
    rw [this]
/-- All faults of a line, row by row. -/
def allF (L : Int) (js : List Int) (h : Int) (l : List Sgn) : List Flt :=
  fltS L js 1 (insR L 1 h l l.length) (insR L 1 h l l.length).length ++ fltS L js (-1) (insR L (-1) h l l.length) (insR L (-1) h l l.length).length
theorem fltM_eq {L : Int} {js : List Int} {h : Int} {l : List Sgn} {q : List Edc} {M : List Flt} (hV : lstE L js l q = 0) (H : FltM L js h l 2 M) : M = allF L js h l := by
  obtain ⟨r1, r2, h1, h2, rfl⟩ := H
  have e1 := row_ins (sgn_nums (lst_sgns hV)).2 h1
  have e2 := row_ins (sgn_nums (lst_sgns hV)).2 h2
  unfold allF
  rw [flt_eq hV (by decide) h1 _ (Nat.le_refl _), flt_eq hV (by decide) h2 _ (Nat.le_refl _), ← e1, ← e2, List.length_map, List.length_map]
theorem fltS_sub (L : Int) (js : List Int) (dir : Int) (R : List Sgn) : ∀ k, k ≤ R.length → ((fltS L js dir R k).map (·.1)).Sublist ((R.take k).map (·.n))
  | 0, _ => by simp [fltS]
  | k + 1, hk => by
    have ih := fltS_sub L js dir R k (by omega)
    rw [fltS, List.take_add_one, List.getElem?_eq_getElem (by omega), Option.toList_some, List.map_append]
    split
    · exact ih.trans (List.sublist_append_left _ _)
    · rw [List.map_append]
      refine ih.append ?_
      rw [gs_at R (by omega)]
      exact List.Sublist.refl _
theorem selR_sub (dir h : Int) (l : List Sgn) : ∀ k, k ≤ l.length → (selR dir h l k).Sublist (l.take k)
  | 0, _ => by simp [selR]
  | k + 1, hk => by
    have ih := selR_sub dir h l k (by omega)
    rw [selR, List.take_add_one, List.getElem?_eq_getElem (by omega), Option.toList_some]
    split
    · refine ih.append ?_
      rw [gs_at l (by omega)]
      exact List.Sublist.refl _
    · exact ih.trans (List.sublist_append_left _ _)
theorem nums_nodup {l : List Sgn} (hn : ∀ i j, i < j → j < l.length → (gs l i).n ≠ (gs l j).n) : (l.map (·.n)).Nodup := by
  rw [List.Nodup, List.pairwise_iff_getElem]
  intro i j hi hj hij e
  simp only [List.length_map] at hi hj
  rw [List.getElem_map, List.getElem_map, ← gs_at l hi, ← gs_at l hj] at e
  exact hn i j hij hj e
theorem insR_nodup {L dir h : Int} {l : List Sgn} (hn : ∀ i j, i < j → j < l.length → (gs l i).n ≠ (gs l j).n) : ((insR L dir h l l.length).map (·.n)).Nodup := by
  have h1 := ((insR_perm L dir h l l.length).map (·.n)).nodup_iff.2
  refine h1 ?_
  have h2 := (selR_sub dir h l l.length (Nat.le_refl _)).map (·.n)
  rw [List.take_of_length_le (Nat.le_refl _)] at h2
  exact h2.nodup (nums_nodup hn)
theorem allF_nodup {L : Int} {js : List Int} {h : Int} {l : List Sgn} (hn : ∀ i j, i < j → j < l.length → (gs l i).n ≠ (gs l j).n) : ((allF L js h l).map (·.1)).Nodup := by
  unfold allF
  rw [List.map_append]
  have one : ∀ dir, ((fltS L js dir (insR L dir h l l.length) (insR L dir h l l.length).length).map (·.1)).Sublist ((insR L dir h l l.length).map (·.n)) := fun dir => by
    have := fltS_sub L js dir (insR L dir h l l.length) _ (Nat.le_refl _)
    rwa [List.take_of_length_le (Nat.le_refl _)] at this
  rw [List.nodup_append]
  refine ⟨(one 1).nodup (insR_nodup hn), (one (-1)).nodup (insR_nodup hn), fun x hx y hy e => ?_⟩
  obtain ⟨s1, hs1, e1⟩ := List.mem_map.1 ((one 1).subset hx)
  obtain ⟨s2, hs2, e2⟩ := List.mem_map.1 ((one (-1)).subset hy)
  have m1 := (insR_perm L 1 h l l.length).mem_iff.1 hs1
  have m2 := (insR_perm L (-1) h l l.length).mem_iff.1 hs2
  have d1 := selR_sel m1
  have d2 := selR_sel m2
  obtain ⟨i, hi, ei⟩ := selR_mem m1
  obtain ⟨j, hj, ej⟩ := selR_mem m2
  have hij : i = j := by
    rcases Nat.lt_trichotomy i j with hlt | heq | hlt
    · exact absurd (by rw [ei, ej, e1, e2, e]) (hn i j hlt hj)
    · exact heq
    · exact absurd (by rw [ei, ej, e1, e2, e]) (hn j i hlt hi)
  subst hij
  rw [← ei] at d1
  rw [← ej] at d2
  unfold selB at d1 d2
  simp only [Bool.and_eq_true, beq_iff_eq] at d1 d2
  omega
/-- Two lists of the same faults in the order of their numbers are one. -/
theorem flt_unique : ∀ {s t : List Flt}, s.Pairwise (fun x y => x.1 ≤ y.1) → t.Pairwise (fun x y => x.1 ≤ y.1) → (s.map (·.1)).Nodup → s.Perm t → s = t
  | [], t, _, _, _, hp => hp.nil_eq
  | x :: s, [], _, _, _, hp => by simpa using hp.length_eq
  | x :: s, y :: t, h1, h2, hn, hp => by
    have hxy : x = y := by
      have hx : x ∈ y :: t := hp.mem_iff.1 (by simp)
      have hy : y ∈ x :: s := hp.mem_iff.2 (by simp)
      rcases List.mem_cons.1 hx with e | hx
      · exact e
      · rcases List.mem_cons.1 hy with e | hy
        · exact e.symm
        · have a1 := (List.pairwise_cons.1 h1).1 y hy
          have a2 := (List.pairwise_cons.1 h2).1 x hx
          rw [List.map_cons, List.nodup_cons] at hn
          exact absurd (List.mem_map.2 ⟨y, hy, by omega⟩) hn.1
    subst hxy
    rw [List.map_cons, List.nodup_cons] at hn
    rw [flt_unique (List.pairwise_cons.1 h1).2 (List.pairwise_cons.1 h2).2 hn.2 hp.cons_inv]
/-- Where a fault goes in a list, from place k down. -/
def plcF (n : Int) (out : List Flt) : Nat → Nat
  | 0 => 0
  | k + 1 => if n < (gp out k).1 then plcF n out k else k + 1
theorem plcF_le (n : Int) (out : List Flt) : ∀ k, plcF n out k ≤ k
  | 0 => Nat.le_refl _
  | k + 1 => by
    rw [plcF]; split
    · exact Nat.le_succ_of_le (plcF_le n out k)
    · exact Nat.le_refl _
def insF (x : Flt) (out : List Flt) : List Flt := out.take (plcF x.1 out out.length) ++ x :: out.drop (plcF x.1 out out.length)
theorem insF_perm (x : Flt) (out : List Flt) : (insF x out).Perm (x :: out) := by
  unfold insF
  have h := List.perm_middle (a := x) (l₁ := out.take (plcF x.1 out out.length)) (l₂ := out.drop (plcF x.1 out out.length))
  rw [List.take_append_drop] at h
  exact h
theorem gp_at (l : List Flt) {i : Nat} (h : i < l.length) : gp l i = l[i] := by unfold gp; simp [h]
theorem plcF_spec {n : Int} {out : List Flt} (hs : out.Pairwise (fun x y => x.1 ≤ y.1)) : ∀ k, k ≤ out.length → (∀ i, i < plcF n out k → (gp out i).1 ≤ n) ∧ (∀ i, plcF n out k ≤ i → i < k → n < (gp out i).1)
  | 0, _ => ⟨fun i hi => absurd hi (Nat.not_lt_zero _), fun i _ hi => absurd hi (Nat.not_lt_zero _)⟩
  | k + 1, hk => by
    rw [plcF]; split
    next h =>
      have ih := plcF_spec (n := n) hs k (by omega)
      refine ⟨ih.1, fun i h1 h2 => ?_⟩
      by_cases e : i = k
      · rw [e]; exact h
      · exact ih.2 i h1 (by omega)
    next h =>
      refine ⟨fun i hi => ?_, fun i h1 h2 => by omega⟩
      by_cases e : i = k
      · rw [e]; omega
      · have := (List.pairwise_iff_getElem.1 hs) i k (by omega) (by omega) (by omega)
        rw [← gp_at out (by omega), ← gp_at out (by omega)] at this
        omega
theorem insF_sorted {x : Flt} {out : List Flt} (hs : out.Pairwise (fun x y => x.1 ≤ y.1)) : (insF x out).Pairwise (fun x y => x.1 ≤ y.1) := by
  obtain ⟨h1, h2⟩ := plcF_spec (n := x.1) hs out.length (Nat.le_refl _)
  have hle := plcF_le x.1 out out.length
  unfold insF
  generalize plcF x.1 out out.length = p at *
  have ht : ∀ y, y ∈ out.take p → y.1 ≤ x.1 := fun y hy => by
    obtain ⟨i, hi, e⟩ := List.getElem_of_mem hy
    rw [List.length_take] at hi
    rw [List.getElem_take] at e
    have := h1 i (by omega)
    rw [gp_at out (by omega), e] at this
    exact this
  have hd : ∀ y, y ∈ out.drop p → x.1 ≤ y.1 := fun y hy => by
    obtain ⟨i, hi, e⟩ := List.getElem_of_mem hy
    rw [List.length_drop] at hi
    rw [List.getElem_drop] at e
    have := h2 (p + i) (by omega) (by omega)
    rw [gp_at out (by omega), e] at this
    omega
  refine List.pairwise_append.2 ⟨hs.sublist (List.take_sublist _ _), List.pairwise_cons.2 ⟨hd, hs.sublist (List.drop_sublist _ _)⟩, fun y hy z hz => ?_⟩
  rcases List.mem_cons.1 hz with rfl | hz
  · exact ht y hy
  · have := ht y hy
    have := hd z hz
    omega
/-- The faults of the first k signs, put into a list one after the other. -/
def putF (L : Int) (js : List Int) (dir : Int) (R : List Sgn) (out : List Flt) : Nat → List Flt
  | 0 => out
  | k + 1 => if codS L js dir R k = 0 then putF L js dir R out k else insF ((gs R k).n, codS L js dir R k) (putF L js dir R out k)
theorem putF_perm (L : Int) (js : List Int) (dir : Int) (R : List Sgn) (out : List Flt) : ∀ k, (putF L js dir R out k).Perm (out ++ fltS L js dir R k)
  | 0 => by simp [putF, fltS]
  | k + 1 => by
    have ih := putF_perm L js dir R out k
    rw [putF, fltS]
    split
    · exact ih
    · refine (insF_perm _ _).trans ((ih.cons _).trans ?_)
      rw [← List.append_assoc]
      exact (List.perm_append_singleton _ _).symm
theorem putF_sorted {L : Int} {js : List Int} {dir : Int} {R : List Sgn} {out : List Flt} (h : out.Pairwise (fun x y => x.1 ≤ y.1)) : ∀ k, (putF L js dir R out k).Pairwise (fun x y => x.1 ≤ y.1)
  | 0 => h
  | k + 1 => by
    rw [putF]; split
    · exact putF_sorted h k
    · exact insF_sorted (putF_sorted h k)
/-- What the reference returns. -/
def refF (L : Int) (js : List Int) (h : Int) (l : List Sgn) : List Flt :=
  putF L js (-1) (insR L (-1) h l l.length) (putF L js 1 (insR L 1 h l l.length) [] (insR L 1 h l l.length).length) (insR L (-1) h l l.length).length
theorem refF_perm (L : Int) (js : List Int) (h : Int) (l : List Sgn) : (refF L js h l).Perm (allF L js h l) := by
  unfold refF allF
  refine (putF_perm _ _ _ _ _ _).trans (List.Perm.append_right _ ?_)
  have := putF_perm L js 1 (insR L 1 h l l.length) [] (insR L 1 h l l.length).length
  rwa [List.nil_append] at this
theorem refF_sorted (L : Int) (js : List Int) (h : Int) (l : List Sgn) : (refF L js h l).Pairwise (fun x y => x.1 ≤ y.1) := putF_sorted (putF_sorted List.Pairwise.nil _) _
/-- What Faults returns is that. -/
theorem fault_eq {L : Int} {js : List Int} {h : Int} {l : List Sgn} {q : List Edc} {M S : List Flt} (hV : lstE L js l q = 0) (H : FltM L js h l 2 M) (hp : S.Perm M) (hs : ∀ i j, i < j → j < S.length → (gp S i).1 ≤ (gp S j).1) : S = refF L js h l := by
  obtain ⟨hn1, hn2⟩ := sgn_nums (lst_sgns hV)
  rw [fltM_eq hV H] at hp
  have hpw : S.Pairwise (fun x y => x.1 ≤ y.1) := by
    rw [List.pairwise_iff_getElem]
    intro i j hi hj hij
    rw [← gp_at S hi, ← gp_at S hj]
    exact hs i j hij hj
  refine flt_unique hpw (refF_sorted L js h l) ((hp.map (·.1)).nodup_iff.2 (allF_nodup hn2)) (hp.trans (refF_perm L js h l).symm)
end Go.Proofs.YtiagflackfkmnaaGreat
