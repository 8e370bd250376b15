/-
  Holds and Must of both, whole. By an AI agent.; Between the cuts of a course nothing changes: what holds, and what must hold, as stretches. By an AI agent.; The laws' comparison of lists that are the same. By an AI agent.; wanted and Wanted; Held at any arguments. By an AI agent.; Lists of signs made of others: what speaks, what is covered, what plays no part. By an AI agent.
-/
import Derived.Test.YtneafbhiencjlaaGreatDoorMgRuleProposed4
import Derived.Test.YtneafbhiencjlaaGreatDoorMgRuleProposed8
import Derived.Deep.RegionHeld3
import Derived.BigQuiet
import Derived.BigRegion
import Derived.Deep.AppendLies

namespace Go.Proofs.YtneafbhiencjlaaGreatDoor
set_option linter.unusedVariables false
set_option linter.unusedSimpArgs false
open Go.RowKit

/-- A row comes back. -/
def RrR (R : List Sgn) (w : World) (e : Ending) (w' : World) : Prop := ∃ b c, e = .returned (.slice b R.length c) ∧ SgnS w' b R ∧ Below w.heap.size w w'
theorem beg_bd {L dir m : Int} (h1 : 0 ≤ L) (h2 : L ≤ 100000) (h3 : 0 ≤ m) (h4 : m < L) : 0 ≤ begK L dir m ∧ begK L dir m < L := by unfold begK; split <;> omega
/-- A number with an error. -/
def NumA (V E : Int) (w : World) (e : Ending) (w' : World) : Prop := e = .returned (.tuple #[.int .i64 V, .int .i64 E]) ∧ Below w.heap.size w w'
end Go.Proofs.YtneafbhiencjlaaGreatDoor

namespace Go.Proofs.YtneafbhiencjlaaGreatDoor
set_option linter.unusedVariables false
set_option linter.unusedSimpArgs false
open Go.RowKit

theorem gi_mem {z : List Int} {k : Nat} (h : k < z.length) : gi z k ∈ z := by rw [gi_at z h]; exact List.getElem_mem h
theorem asc_lt (cuts : List Int) {i j : Nat} (hij : i < j) (hj : j < (ascL cuts).length) : gi (ascL cuts) i < gi (ascL cuts) j := by
  rw [gi_at _ (by omega), gi_at _ hj]
  exact (List.pairwise_iff_getElem.1 (asc_pw cuts)) i j (by omega) hj hij
theorem asc_ends {cuts : List Int} {A B : Int} (hA : A ∈ cuts) (hB : B ∈ cuts) (h : ∀ c, c ∈ cuts → A ≤ c ∧ c ≤ B) : gi (ascL cuts) 0 = A ∧ gi (ascL cuts) ((ascL cuts).length - 1) = B ∧ 0 < (ascL cuts).length := by
  have hp : 0 < (ascL cuts).length := asc_pos (by rintro rfl; cases hA)
  have hm : ∀ k, k < (ascL cuts).length → A ≤ gi (ascL cuts) k ∧ gi (ascL cuts) k ≤ B := fun k hk => h _ ((asc_iff cuts _).1 (gi_mem hk))
  obtain ⟨i, hi, ei⟩ := List.getElem_of_mem ((asc_iff cuts A).2 hA)
  obtain ⟨j, hj, ej⟩ := List.getElem_of_mem ((asc_iff cuts B).2 hB)
  rw [← gi_at _ hi] at ei
  rw [← gi_at _ hj] at ej
  refine ⟨?_, ?_, hp⟩
  · by_cases e : i = 0
    · rw [← ei, e]
    · have := asc_lt cuts (i := 0) (j := i) (by omega) hi
      have := (hm 0 hp).1
      omega
  · by_cases e : j = (ascL cuts).length - 1
    · rw [← ej, e]
    · have := asc_lt cuts (i := j) (j := (ascL cuts).length - 1) (by omega) (by omega)
      have := (hm ((ascL cuts).length - 1) (by omega)).2
      omega
/-- A function that hangs on how a place lies to the cuts alone. -/
theorem asc_const {V : Type} {cuts : List Int} {f : Int → V} (h : ∀ a m : Int, (∀ c, c ∈ cuts → (a < c ↔ m < c)) → f m = f a) (k : Nat) (hk : k + 1 < (ascL cuts).length) (i : Int) (h1 : gi (ascL cuts) k ≤ i) (h2 : i < gi (ascL cuts) (k + 1)) : f i = f (gi (ascL cuts) k) := by
  refine h _ _ fun c hc => ?_
  obtain ⟨j, hj, e⟩ := List.getElem_of_mem ((asc_iff cuts c).2 hc)
  rw [← gi_at _ hj] at e
  by_cases hjk : j ≤ k
  · have : gi (ascL cuts) j ≤ gi (ascL cuts) k := by
      by_cases e2 : j = k
      · rw [e2]; exact Int.le_refl _
      · exact Int.le_of_lt (asc_lt cuts (by omega) (by omega))
    omega
  · have : gi (ascL cuts) (k + 1) ≤ gi (ascL cuts) j := by
      by_cases e2 : j = k + 1
      · rw [e2]; exact Int.le_refl _
      · exact Int.le_of_lt (asc_lt cuts (by omega) hj)
    omega
theorem strV_congr {V : Type} [DecidableEq V] [Inhabited V] {sk : V → Bool} {f g : Int → V} : ∀ n : Nat, (∀ i : Nat, i < n → f i = g i) → strV sk f n = strV sk g n
  | 0, _ => rfl
  | n + 1, h => by rw [strV, strV, strV_congr n (fun i hi => h i (by omega)), h n (by omega)]
/-- The stretches of a function along a line. -/
def strS (L : Int) (f : Int → Int) : List Tri := strV (fun v : Int => v == 0) f L.toNat
theorem line_jct {L : Int} {js : List Int} (h : lineB L js = true) : ∀ j, j < js.length → 0 < gi js j ∧ gi js j < L := by
  unfold lineB at h
  simp only [Bool.and_eq_true, decide_eq_true_eq, Bool.not_eq_true'] at h
  have hj : ∀ j, j < js.length → jOk L js j = true := fun j hj => by simpa using (anyK_iff _).1 h.2 j hj
  intro j hjl
  have h0 := jOk_pos (L := L) j (fun i hi => hj i (by omega))
  have h3 := hj j hjl
  unfold jOk at h3
  simp only [Bool.and_eq_true, decide_eq_true_eq] at h3
  omega
theorem lst_line {L : Int} {js : List Int} {l : List Sgn} {q : List Edc} (h : lstE L js l q = 0) : lineB L js = true ∧ 1 ≤ L ∧ L ≤ 100000 := by
  unfold lstE at h
  split at h
  · cases h
  next h1 =>
  have h1 : lineB L js = true := by simpa using h1
  have g := h1
  unfold lineB at g
  simp only [Bool.and_eq_true, decide_eq_true_eq] at g
  have := btw_ge g.1.1
  exact ⟨h1, this.1, this.2⟩
theorem dst_in {L dir c : Int} (hd : dirB dir = true) (h1 : 0 ≤ c) (h2 : c ≤ L) : 0 ≤ dstK L dir c ∧ dstK L dir c ≤ L := by
  unfold dstK; split <;> omega
theorem dst_dst {L dir c : Int} : dstK L dir (dstK L dir c) = c := by
  unfold dstK; split <;> omega
theorem opn_in {L : Int} {js : List Int} {dir d : Int} (hd : d ≤ L) (hJ : ∀ j, j < js.length → dstK L dir (gi js j) ≤ L) : ∀ n, n ≤ js.length → d ≤ opnK L js dir d n ∧ opnK L js dir d n ≤ L
  | 0, _ => ⟨hd, Int.le_refl _⟩
  | n + 1, hn => by
    have ih := opn_in hd hJ n (by omega)
    have hj := hJ n (by omega)
    rw [opnK]
    split
    · rw [Int.min_def]; split <;> omega
    · exact ih
/-- The signs of good lists. -/
theorem sgn_in {L : Int} {js : List Int} {l : List Sgn} (h : sgnsB L js l = true) (j : Nat) (hj : j < l.length) : sgnB L (gs l j) = true := by
  unfold sgnsB at h
  simp only [Bool.and_eq_true, decide_eq_true_eq] at h
  have hA := h.1.2
  unfold allB at hA
  simp only [Bool.not_eq_true'] at hA
  simpa using (anyK_iff _).1 hA j hj
theorem sgn_c {L : Int} {s : Sgn} (h : sgnB L s = true) : 0 ≤ s.c ∧ s.c ≤ L := by
  unfold sgnB at h
  simp only [Bool.and_eq_true, decide_eq_true_eq] at h
  have := btw_ge h.1.1.1.1.1.2
  omega
theorem row_in {L : Int} {js : List Int} {dir h : Int} {l : List Sgn} {q : List Edc} {row : List Pst} (hV : lstE L js l q = 0) (hd : dirB dir = true) (H : RowL L js dir h l row) (i : Nat) (hi : i < row.length) : (0 ≤ (gq row i).d ∧ (gq row i).d ≤ L) ∧ 0 ≤ (gq row i).u ∧ (gq row i).u ≤ L := by
  obtain ⟨hl, hL1, hL2⟩ := lst_line hV
  have hsb := lst_sgns hV
  have hval := (lst_good hV).2.2.1
  obtain ⟨e1, ⟨j, hj, e2, -⟩, e3, -⟩ := row_elem H i hi
  have hc := sgn_c (sgn_in hsb j hj)
  rw [← e2] at hc
  have h1 := dst_in hd hc.1 hc.2
  have h2 := opn_in (dir := dir) h1.2 (fun j hj => by
    have := line_jct hl j hj
    exact (dst_in hd (by omega) (by omega)).2) js.length (Nat.le_refl _)
  rw [e1, e3]
  refine ⟨h1, ?_⟩
  split
  next hp =>
    obtain ⟨-, ⟨j2, hj2, e4, -⟩, -, -⟩ := row_elem H (i + 1) hp.1
    have := (hval j2 hj2).2
    rw [← e4] at this
    rw [Int.min_def]
    split <;> omega
  · omega
theorem cutsK_mem {L dir : Int} {row : List Pst} : ∀ n, n ≤ row.length → ∀ c, c ∈ cutsK L dir row n ↔ c = 0 ∨ c = L ∨ ∃ i, i < n ∧ (c = dstK L dir (gq row i).d ∨ c = dstK L dir (gq row i).u)
  | 0, _, c => by simp [cutsK]
  | n + 1, hn, c => by
    rw [cutsK, List.mem_append, cutsK_mem n (by omega) c]
    simp only [List.mem_cons, List.not_mem_nil, or_false]
    constructor
    · rintro ((h | h | ⟨i, hi, h⟩) | h)
      · exact .inl h
      · exact .inr (.inl h)
      · exact .inr (.inr ⟨i, by omega, h⟩)
      · exact .inr (.inr ⟨n, by omega, h⟩)
    · rintro (h | h | ⟨i, hi, h⟩)
      · exact .inl (.inl h)
      · exact .inl (.inr (.inl h))
      · by_cases e : i = n
        · rw [e] at h; exact .inr h
        · exact .inl (.inr (.inr ⟨i, by omega, h⟩))
theorem hld_same {t k k' : Int} : ∀ (row : List Pst), (∀ p, p ∈ row → (k < p.d ↔ k' < p.d) ∧ (p.u ≤ k ↔ p.u ≤ k')) → ∀ v, hldL t k row v = hldL t k' row v
  | [], _, v => rfl
  | p :: r, h, v => by
    obtain ⟨h1, h2⟩ := h p (by simp)
    rw [hldL, hldL]
    have e : stpK p t k v = stpK p t k' v := by
      unfold stpK
      rw [ifc h2]
    rw [ifc h1, e, hld_same r (fun x hx => h x (by simp [hx]))]
theorem beg_lt {L dir m c : Int} (hd : dirB dir = true) : begK L dir m < c ↔ (if dir = 1 then m < dstK L dir c else ¬ m < dstK L dir c) := by
  unfold begK dstK
  by_cases h : dir = 1
  · rw [if_pos h, if_pos h, if_pos h]
  · rw [if_neg h, if_neg h, if_neg h]; omega
/-- What Held says of a row that the program makes: the stretches of what holds on each metre. -/
def heldS (L : Int) (js : List Int) (l : List Sgn) (h dir t : Int) : List Tri := strS L (fun m => hldV L js l h dir t m)
theorem told_const {L : Int} {js : List Int} {dir h t : Int} {l : List Sgn} {q : List Edc} {row : List Pst} (hV : lstE L js l q = 0) (hd : dirB dir = true) (H : RowL L js dir h l row) (a m : Int) (hc : ∀ c, c ∈ cutsK L dir row row.length → (a < c ↔ m < c)) : hldL t (begK L dir m) row 0 = hldL t (begK L dir a) row 0 := by
  refine hld_same row (fun p hp => ?_) 0
  obtain ⟨i, hi, e⟩ := List.getElem_of_mem hp
  have eg : gq row i = p := by unfold gq; simp [hi, e]
  have m1 := hc _ ((cutsK_mem row.length (Nat.le_refl _) _).2 (.inr (.inr ⟨i, hi, .inl rfl⟩)))
  have m2 := hc _ ((cutsK_mem row.length (Nat.le_refl _) _).2 (.inr (.inr ⟨i, hi, .inr rfl⟩)))
  rw [eg] at m1 m2
  have n1 := beg_lt (L := L) (m := m) (c := p.d) hd
  have n2 := beg_lt (L := L) (m := a) (c := p.d) hd
  have n3 := beg_lt (L := L) (m := m) (c := p.u) hd
  have n4 := beg_lt (L := L) (m := a) (c := p.u) hd
  constructor
  · rw [n1, n2]
    split
    · exact m1.symm
    · rw [m1]
  · have : (begK L dir m < p.u ↔ begK L dir a < p.u) := by
      rw [n3, n4]
      split
      · exact m2.symm
      · rw [m2]
    omega
theorem told_cuts {L : Int} {js : List Int} {dir h : Int} {l : List Sgn} {q : List Edc} {row : List Pst} (hV : lstE L js l q = 0) (hd : dirB dir = true) (H : RowL L js dir h l row) : 0 ∈ cutsK L dir row row.length ∧ L ∈ cutsK L dir row row.length ∧ ∀ c, c ∈ cutsK L dir row row.length → 0 ≤ c ∧ c ≤ L := by
  obtain ⟨hl, hL1, hL2⟩ := lst_line hV
  refine ⟨(cutsK_mem row.length (Nat.le_refl _) _).2 (.inl rfl), (cutsK_mem row.length (Nat.le_refl _) _).2 (.inr (.inl rfl)), fun c hc => ?_⟩
  rcases (cutsK_mem row.length (Nat.le_refl _) c).1 hc with rfl | rfl | ⟨i, hi, rfl | rfl⟩
  · omega
  · omega
  · have := row_in hV hd H i hi
    exact dst_in hd this.1.1 this.1.2
  · have := row_in hV hd H i hi
    exact dst_in hd this.2.1 this.2.2
/-- The cuts of edicts. -/
def cutsW (L : Int) (q : List Edc) : Nat → List Int
  | 0 => [0, L]
  | k + 1 => cutsW L q k ++ [(ge q k).fr, (ge q k).tt]
theorem cutsW_len (L : Int) (q : List Edc) : ∀ k, (cutsW L q k).length = 2 + 2 * k
  | 0 => rfl
  | k + 1 => by rw [cutsW, List.length_append, cutsW_len L q k]; simp; omega
theorem cutsW_mem {L : Int} {q : List Edc} : ∀ n, n ≤ q.length → ∀ c, c ∈ cutsW L q n ↔ c = 0 ∨ c = L ∨ ∃ i, i < n ∧ (c = (ge q i).fr ∨ c = (ge q i).tt)
  | 0, _, c => by simp [cutsW]
  | n + 1, hn, c => by
    rw [cutsW, List.mem_append, cutsW_mem n (by omega) c]
    simp only [List.mem_cons, List.not_mem_nil, or_false]
    constructor
    · rintro ((h | h | ⟨i, hi, h⟩) | h)
      · exact .inl h
      · exact .inr (.inl h)
      · exact .inr (.inr ⟨i, by omega, h⟩)
      · exact .inr (.inr ⟨n, by omega, h⟩)
    · rintro (h | h | ⟨i, hi, h⟩)
      · exact .inl (.inl h)
      · exact .inl (.inr (.inl h))
      · by_cases e : i = n
        · rw [e] at h; exact .inr h
        · exact .inl (.inr (.inr ⟨i, by omega, h⟩))
theorem edc_in {L : Int} {js : List Int} {q : List Edc} (h : edcsB L js q = true) (j : Nat) (hj : j < q.length) : edcB L (ge q j) = true := by
  unfold edcsB at h
  simp only [Bool.and_eq_true, decide_eq_true_eq] at h
  have hA := h.1.2
  unfold allE at hA
  simp only [Bool.not_eq_true'] at hA
  simpa using (anyK_iff _).1 hA j hj
theorem edc_bd {L : Int} {x : Edc} (h : edcB L x = true) : 0 ≤ x.fr ∧ x.fr < x.tt ∧ x.tt ≤ L := by
  unfold edcB at h
  simp only [Bool.and_eq_true, decide_eq_true_eq] at h
  omega
theorem mustK_same {q : List Edc} {h t d m m' : Int} : ∀ n, n ≤ q.length → (∀ i, i < n → ((ge q i).fr ≤ m ↔ (ge q i).fr ≤ m') ∧ (m < (ge q i).tt ↔ m' < (ge q i).tt)) → mustK q h t d m n = mustK q h t d m' n
  | 0, _, _ => rfl
  | n + 1, hn, hh => by
    rw [mustK, mustK, mustK_same n (by omega) (fun i hi => hh i (by omega))]
    obtain ⟨h1, h2⟩ := hh n (by omega)
    have : edB (ge q n) h t d m = edB (ge q n) h t d m' := by
      unfold edB
      rw [show decide ((ge q n).fr ≤ m) = decide ((ge q n).fr ≤ m') from decide_eq_decide.2 h1, show decide (m < (ge q n).tt) = decide (m' < (ge q n).tt) from decide_eq_decide.2 h2]
    rw [this]
def wantS (L : Int) (q : List Edc) (h dir t : Int) : List Tri := strS L (fun m => mustV q h t dir m)
theorem want_const {L : Int} {q : List Edc} {h t d : Int} (a m : Int) (hc : ∀ c, c ∈ cutsW L q q.length → (a < c ↔ m < c)) : mustV q h t d m = mustV q h t d a := by
  unfold mustV
  rw [mustK_same q.length (Nat.le_refl _) (fun i hi => ?_)]
  have m1 := hc _ ((cutsW_mem q.length (Nat.le_refl _) _).2 (.inr (.inr ⟨i, hi, .inl rfl⟩)))
  have m2 := hc _ ((cutsW_mem q.length (Nat.le_refl _) _).2 (.inr (.inr ⟨i, hi, .inr rfl⟩)))
  constructor <;> omega
theorem want_cuts {L : Int} {js : List Int} {l : List Sgn} {q : List Edc} (hV : lstE L js l q = 0) : 0 ∈ cutsW L q q.length ∧ L ∈ cutsW L q q.length ∧ ∀ c, c ∈ cutsW L q q.length → 0 ≤ c ∧ c ≤ L := by
  obtain ⟨hl, hL1, hL2⟩ := lst_line hV
  refine ⟨(cutsW_mem q.length (Nat.le_refl _) _).2 (.inl rfl), (cutsW_mem q.length (Nat.le_refl _) _).2 (.inr (.inl rfl)), fun c hc => ?_⟩
  rcases (cutsW_mem q.length (Nat.le_refl _) c).1 hc with rfl | rfl | ⟨i, hi, rfl | rfl⟩
  · omega
  · omega
  · have := edc_bd (edc_in (lst_edcs hV) i hi); omega
  · have := edc_bd (edc_in (lst_edcs hV) i hi); omega
end Go.Proofs.YtneafbhiencjlaaGreatDoor

namespace Go.Proofs.YtneafbhiencjlaaGreatDoor
set_option linter.unusedVariables false
set_option linter.unusedSimpArgs false
open Go.RowKit

def TriS (w : World) (a : Option Addr) (l : List (Int × Int × Int)) : Prop :=
  l.length ≤ 9223372036854775807 ∧ ∃ blk off, (l ≠ [] → a = some ⟨blk, off, none⟩) ∧ ∀ i, i < l.length → w.cell? ⟨blk, off + i * 3, none⟩ = some (.int .i64 (gt3 l i).1) ∧ w.cell? ⟨blk, off + i * 3 + 1, none⟩ = some (.int .i64 (gt3 l i).2.1) ∧ w.cell? ⟨blk, off + i * 3 + 2, none⟩ = some (.int .i64 (gt3 l i).2.2)
theorem TriS.below {w w' : World} {a : Option Addr} {l : List (Int × Int × Int)} (h : TriS w a l) (hb : Below w.heap.size w w') : TriS w' a l := by
  obtain ⟨h0, blk, off, h2, h3⟩ := h
  exact ⟨h0, blk, off, h2, fun i hi => by
    have hx := h3 i hi
    exact ⟨cell_below hx.1 hb, cell_below hx.2.1 hb, cell_below hx.2.2 hb⟩⟩
end Go.Proofs.YtneafbhiencjlaaGreatDoor

namespace Go.Proofs.YtneafbhiencjlaaGreatDoor
set_option linter.unusedVariables false
set_option linter.unusedSimpArgs false
open Go.RowKit

set_option maxRecDepth 100000 in
set_option maxHeartbeats 1000000 in
theorem wanted1_r (ae : Option Addr) (q : List Edc) (cq eb hb wb : Nat) (h tp dir m : Int) (w : World) (hE : EdS w ae q)
    (c0 : w.cell? ⟨eb, 0, none⟩ = some (.slice ae q.length cq)) (c1 : w.cell? ⟨hb, 0, none⟩ = some (.int .i64 h)) (c2 : w.cell? ⟨wb, 0, none⟩ = some (.int .i64 tp)) (c3 : w.cell? ⟨wb, 1, none⟩ = some (.int .i64 dir)) :
    Calls Tryz.prog 68 (#[.int .i64 m] ++ #[.pointer (some ⟨eb, 0, none⟩), .pointer (some ⟨hb, 0, none⟩), .pointer (some ⟨wb, 0, none⟩)]) w fun e w' => e = .returned (.int .i64 (mustV q h tp dir m)) ∧ Below w.heap.size w w' := by
  change Calls Tryz.prog 68 #[.int .i64 m, .pointer (some ⟨eb, 0, none⟩), .pointer (some ⟨hb, 0, none⟩), .pointer (some ⟨wb, 0, none⟩)] w _
  have HM := Lib.hid (mustAt_r ae q cq h tp dir m w hE)
  clear hE
  go_enter Tryz.func68, Tryz.ntmps68
  go_wp2_with (go_at_call 69; refine HM.out.mono ?_; rintro e w3 ⟨rfl, hb3⟩)
  go_ret
  exact ⟨rfl, hb3⟩
theorem cutsW_pair (L : Int) (q : List Edc) (k : Nat) : clI (cutsW L q (k + 1)) = clI (cutsW L q k) ++ [.int .i64 (ge q k).fr, .int .i64 (ge q k).tt] := by rw [cutsW]; simp [clI]
theorem edcs_len {L : Int} {js : List Int} {q : List Edc} (h : edcsB L js q = true) : q.length ≤ 50 := by
  unfold edcsB at h
  simp only [Bool.and_eq_true, decide_eq_true_eq] at h
  exact h.1.1.2
/-- A course of edicts comes back. -/
def WantE (L : Int) (ae : Option Addr) (q : List Edc) (cq : Nat) (h tp dir : Int) (w : World) (e : Ending) (w' : World) : Prop :=
  ∃ (eb hb wb : Nat) (aq : Option Addr) (cq2 : Nat), w'.cell? ⟨eb, 0, none⟩ = some (.slice ae q.length cq) ∧ w'.cell? ⟨hb, 0, none⟩ = some (.int .i64 h) ∧ w'.cell? ⟨wb, 0, none⟩ = some (.int .i64 tp) ∧ w'.cell? ⟨wb, 1, none⟩ = some (.int .i64 dir) ∧
    e = .returned (.agg #[.func (.func 68) #[] #[.pointer (some ⟨eb, 0, none⟩), .pointer (some ⟨hb, 0, none⟩), .pointer (some ⟨wb, 0, none⟩)], .slice aq (cutsW L q q.length).length cq2]) ∧ IntsS w' aq (cutsW L q q.length) ∧ Below w.heap.size w w'
set_option maxRecDepth 100000 in
set_option maxHeartbeats 2000000 in
theorem wanted_r (L : Int) (a : Option Addr) (n ca : Nat) (ae : Option Addr) (q : List Edc) (cq : Nat) (h tp dir : Int) (hn : q.length ≤ 1000) (hq : ∀ j, j < q.length → -1000000 ≤ (ge q j).fr ∧ (ge q j).fr ≤ 1000000 ∧ -1000000 ≤ (ge q j).tt ∧ (ge q j).tt ≤ 1000000) (hL : -1000000 ≤ L ∧ L ≤ 1000000) (w : World) (hE : EdS w ae q) :
    Calls Tryz.prog 32 #[.agg #[.int .i64 L, .slice a n ca], .slice ae q.length cq, .int .i64 h, .agg #[.int .i64 tp, .int .i64 dir]] w (WantE L ae q cq h tp dir w) := by
  obtain ⟨-, blk, off, hadr, hc⟩ := hE
  have HC := Lib.hid hc
  have HA : Hid (0 < q.length → ae = some ⟨blk, off, none⟩) := Lib.hid fun h => hadr (List.ne_nil_of_length_pos h)
  have HQ := Lib.hid hq
  have HBL := Lib.hid hL
  obtain ⟨n0, hi, hz0, hz1, hz2⟩ := info_parts infoInt
  clear hc hadr hq hL
  go_enter Tryz.func32, Tryz.ntmps32
  go_upto_region 1 with (fail)
  obtain ⟨wX, hwX⟩ : ∃ wX, ((((w.alloc (.cells #[.int .i64 L, .slice a n ca] 24)).alloc (.cells #[.slice ae q.length cq] 26)).alloc (.cells #[.int .i64 h] 3)).alloc (.cells #[.int .i64 tp, .int .i64 dir] 59)).alloc (.cells #[.nilFunc, .slice none 0 0] 67) = wX := ⟨_, rfl⟩
  have hb : Below w.heap.size w wX := by rw [← hwX]; exact (((((Below.refl _ _).alloc (Nat.le_refl _) _).alloc (by simp) _).alloc (by simp; omega) _).alloc (by simp; omega) _).alloc (by simp; omega) _
  have hsz : w.heap.size + 4 < wX.heap.size := by rw [← hwX]; simp
  have l0 : wX.cell? ⟨w.heap.size, 0, none⟩ = some (.int .i64 L) := by rw [← hwX]; simp [go_sem]
  have e0 : wX.cell? ⟨w.heap.size + 1, 0, none⟩ = some (.slice ae q.length cq) := by rw [← hwX]; simp [go_sem]
  have h0 : wX.cell? ⟨w.heap.size + 1 + 1, 0, none⟩ = some (.int .i64 h) := by rw [← hwX]; simp [go_sem]
  have y0 : wX.cell? ⟨w.heap.size + 1 + 1 + 1, 0, none⟩ = some (.int .i64 tp) := by rw [← hwX]; simp [go_sem]
  have y1 : wX.cell? ⟨w.heap.size + 1 + 1 + 1, 1, none⟩ = some (.int .i64 dir) := by rw [← hwX]; simp [go_sem]
  have r0 : wX.cell? ⟨w.heap.size + 1 + 1 + 1 + 1, 0, none⟩ = some (.nilFunc) := by rw [← hwX]; simp [go_sem]
  have r1 : wX.cell? ⟨w.heap.size + 1 + 1 + 1 + 1, 1, none⟩ = some (.slice none 0 0) := by rw [← hwX]; simp [go_sem]
  have f0 : wX.frozen? ⟨w.heap.size + 1 + 1 + 1 + 1, 0, none⟩ = false := by rw [← hwX]; simp [go_sem]
  have f1 : wX.frozen? ⟨w.heap.size + 1 + 1 + 1 + 1, 1, none⟩ = false := by rw [← hwX]; simp [go_sem]
  rw [hwX]
  clear hwX
  have L0 := Lib.hid l0
  have E0 := Lib.hid e0
  have H0 := Lib.hid h0
  have Y0 := Lib.hid y0
  have Y1 := Lib.hid y1
  have R0 := Lib.hid r0
  have R1 := Lib.hid r1
  have F0 := Lib.hid f0
  have F1 := Lib.hid f1
  have HB := Lib.hid hb
  have hlen2 := Lib.hid (cutsW_len L q)
  clear f0 f1 r0 r1 hb y0 y1 h0
  have hown0 : Hid ((wX.alloc (.cells #[.int .i64 0, .int .i64 L] 3)).ownsRow wX.heap.size 3 1 (.slice (some ⟨wX.heap.size, 0, none⟩) (cutsW L q 0).length 2) (cutsW L q 0).length (clI (cutsW L q 0))) := Lib.hid (by
    exact ⟨rfl, .inr ⟨wX.heap.size, 2, #[.int .i64 0, .int .i64 L], rfl, Nat.le_refl _, heap_alloc_new _ _, Nat.le_refl 2, by decide, rfl, rfl⟩⟩)
  go_upto_region 2 with (fail)
  obtain ⟨wY, hwY⟩ : ∃ wY, wX.alloc (.cells #[.int .i64 0, .int .i64 L] 3) = wY := ⟨_, rfl⟩
  have hby : Below wX.heap.size wX wY := by rw [← hwY]; exact (Below.refl _ _).alloc (Nat.le_refl _) _
  rw [hwY] at hown0 ⊢
  clear hwY
  replace e0 := cell_below e0 hby
  have HBX0 := Lib.hid hby
  clear hby
  go_wp2_with fail
  clear l0 e0
  go_loopw [9, 17] (fun z i9 wr => ∃ k : Nat, k ≤ q.length ∧ i9 = .int .i64 k ∧ (∃ a c, z = .slice a (cutsW L q k).length c) ∧ Hid (wr.ownsRow wX.heap.size 3 1 z (cutsW L q k).length (clI (cutsW L q k))) ∧ Below wX.heap.size wX wr) (fun _ i9 _ => q.length - (intOf i9).toNat)
  case atStart => exact ⟨0, Nat.zero_le _, rfl, ⟨_, _, rfl⟩, hown0, HBX0.out⟩
  case round =>
    clear hown0
    obtain ⟨k, hk, rfl, ⟨av, cv, rfl⟩, HRow, hbr⟩ := hrel
    by_cases hlt : k < q.length
    · obtain rfl := HA.out (by omega)
      obtain ⟨c0, c1, c2, c3, c4, c5, c6, c7⟩ := HC.out k hlt
      have c0 := cell_below c0 (HB.out.trans (hbr.mono HB.out.size))
      have c1 := cell_below c1 (HB.out.trans (hbr.mono HB.out.size))
      have c2 := cell_below c2 (HB.out.trans (hbr.mono HB.out.size))
      have c3 := cell_below c3 (HB.out.trans (hbr.mono HB.out.size))
      have c4 := cell_below c4 (HB.out.trans (hbr.mono HB.out.size))
      have c5 := cell_below c5 (HB.out.trans (hbr.mono HB.out.size))
      have c6 := cell_below c6 (HB.out.trans (hbr.mono HB.out.size))
      have c7 := cell_below c7 (HB.out.trans (hbr.mono HB.out.size))
      have HPair : Hid (clI (cutsW L q (k + 1)) = clI (cutsW L q k) ++ [.int .i64 (ge q k).fr, .int .i64 (ge q k).tt] ∧ (cutsW L q (k + 1)).length = (cutsW L q k).length + 2) := Lib.hid ⟨cutsW_pair L q k, by rw [hlen2.out, hlen2.out]; omega⟩
      have hll := hlen2.out k
      have hcl : (cutsW L q k).length ≤ 10000 := by omega
      have hsr := hbr.size
      clear HC HA HQ hll
      obtain ⟨x, hx⟩ : ∃ x, ge q k = x := ⟨_, rfl⟩
      rw [hx] at HPair c0 c1 c2 c3 c4 c5 c6 c7
      clear hx
      obtain ⟨CQ, hCQ⟩ : ∃ CQ, cutsW L q k = CQ := ⟨_, rfl⟩
      rw [hCQ] at HRow HPair hcl ⊢
      clear hCQ
      have hown := Lib.hid ((HRow.out.alloc (.cells #[.int .i64 x.n, .int .i64 x.tp, .int .i64 x.v, .int .i64 x.d, .int .i64 x.fr, .int .i64 x.tt, .int .i64 x.st, .int .i64 x.en] 104)).alloc (.cells #[.int .i64 x.fr, .int .i64 x.tt] 3))
      have hbq : Below wX.heap.size wX ((wr.alloc (.cells #[.int .i64 x.n, .int .i64 x.tp, .int .i64 x.v, .int .i64 x.d, .int .i64 x.fr, .int .i64 x.tt, .int .i64 x.st, .int .i64 x.en] 104)).alloc (.cells #[.int .i64 x.fr, .int .i64 x.tt] 3)) := (hbr.alloc hsr _).alloc (by simp; omega) _
      clear HRow
      go_wp2_with (first | (at_builtin; go_loud (refine wpList_append_lies _ rfl _ _ 22 rfl wX.heap.size 3 n0 _ 1 8 Tryz.underlying22 hi hz0 hz1 hz2 rfl (by decide) (.slice av CQ.length cv) CQ.length _ (by rfl) hown.out ⟨wr.heap.size + 1, 0, none⟩ 2 2 [.int .i64 x.fr, .int .i64 x.tt] (by rfl) (by rfl) ?d1 ?d2 (by decide) ?d3 ?d4 ?d5 _ rfl ?_)))
      case d1 =>
        refine World.news_of_block (cs := #[.int .i64 x.fr, .int .i64 x.tt]) (t := 3) (fr := (0, 0)) ?_
        have := heap_alloc_new (wr.alloc (.cells #[.int .i64 x.n, .int .i64 x.tp, .int .i64 x.v, .int .i64 x.d, .int .i64 x.fr, .int .i64 x.tt, .int .i64 x.st, .int .i64 x.en] 104)) (.cells #[.int .i64 x.fr, .int .i64 x.tt] 3)
        simpa using this
      case d2 => simp [Value.oneCell']
      case d3 => unfold maxLen; omega
      case d4 => omega
      case d5 => first | (simp; omega) | simp | omega
      intro g6 c6 w6 hown6 hgrow6 hat6 hlt6
      have hb6 : Below wX.heap.size wX w6 := hbq.grown hgrow6 (by first | (simp; omega) | simp | omega) (fun z hz => owns_blockI hown.out hz)
      have HRow6 := Lib.hid hown6
      clear hown6 hown hbq hgrow6 hat6 hlt6
      go_wp2_with fail
      go_roundw
      case rel => exact ⟨k + 1, by omega, by go_num, ⟨some ⟨g6, 0, none⟩, c6, by rw [HPair.out.2]⟩, Lib.hid (by rw [HPair.out.1, HPair.out.2]; exact HRow6.out), hb6⟩
      case measure => simp [intOf]; omega
    · obtain rfl : k = q.length := by omega
      have hbw := HB.out.trans (hbr.mono HB.out.size)
      have r0 := cell_below R0.out hbr
      have r1 := cell_below R1.out hbr
      have f0 := (hbr.frozen (p := ⟨w.heap.size + 1 + 1 + 1 + 1, 0, none⟩) (block_lt R0.out)).trans F0.out
      have f1 := (hbr.frozen (p := ⟨w.heap.size + 1 + 1 + 1 + 1, 1, none⟩) (block_lt R0.out)).trans F1.out
      have E9 := Lib.hid (cell_below E0.out hbr)
      have H9 := Lib.hid (cell_below H0.out hbr)
      have Y9 := Lib.hid (cell_below Y0.out hbr)
      have Y8 := Lib.hid (cell_below Y1.out hbr)
      have HFar : Hid (∀ v0 v1 b, b ≠ w.heap.size + 1 + 1 + 1 + 1 → ((wr.setCell ⟨w.heap.size + 1 + 1 + 1 + 1, 0, none⟩ v0).setCell ⟨w.heap.size + 1 + 1 + 1 + 1, 1, none⟩ v1).heap[b]? = wr.heap[b]?) := Lib.hid fun v0 v1 b hb => (Below.heap_setCell _ _ _ _ (by simpa using hb)).trans (Below.heap_setCell _ _ _ _ (by simpa using hb))
      have HBf : Hid (∀ v0 v1, Below w.heap.size w ((wr.setCell ⟨w.heap.size + 1 + 1 + 1 + 1, 0, none⟩ v0).setCell ⟨w.heap.size + 1 + 1 + 1 + 1, 1, none⟩ v1)) := Lib.hid fun v0 v1 => (hbw.setCell (p := ⟨w.heap.size + 1 + 1 + 1 + 1, 0, none⟩) (by simp; omega) _).setCell (p := ⟨w.heap.size + 1 + 1 + 1 + 1, 1, none⟩) (by simp; omega) _
      have hlc := hlen2.out q.length
      have HLc := Lib.hid hlc
      have hsr := hbr.size
      clear hbr hbw hlc HC HA
      go_wp2_with fail
      refine bodyPost_ret (v := .agg #[.func (.func 68) #[] #[.pointer (some ⟨w.heap.size + 1, 0, none⟩), .pointer (some ⟨w.heap.size + 1 + 1, 0, none⟩), .pointer (some ⟨w.heap.size + 1 + 1 + 1, 0, none⟩)], .slice av (cutsW L q q.length).length cv]) (by simp [results, Tryz.results32, go_sem, r0, r1]) rfl ?_
      have tr : ∀ v0 v1 b o v, b ≠ w.heap.size + 1 + 1 + 1 + 1 → wr.cell? ⟨b, o, none⟩ = some v → ((wr.setCell ⟨w.heap.size + 1 + 1 + 1 + 1, 0, none⟩ v0).setCell ⟨w.heap.size + 1 + 1 + 1 + 1, 1, none⟩ v1).cell? ⟨b, o, none⟩ = some v := fun v0 v1 b o v hb hc => (World.cell?_of_block (w := wr) (a := ⟨b, o, none⟩) (HFar.out v0 v1 b hb)).trans hc
      refine ⟨w.heap.size + 1, w.heap.size + 1 + 1, w.heap.size + 1 + 1 + 1, av, cv, tr _ _ _ _ _ (by omega) E9.out, tr _ _ _ _ _ (by omega) H9.out, tr _ _ _ _ _ (by omega) Y9.out, tr _ _ _ _ _ (by omega) Y8.out, rfl, ?_, HBf.out _ _⟩
      refine ⟨by rw [HLc.out]; omega, fun i hi => ?_, ?_⟩
      · have hm := gi_mem hi
        rcases (cutsW_mem q.length (Nat.le_refl _) _).1 hm with e | e | ⟨j, hj, e | e⟩
        · rw [e]; exact ⟨by omega, by omega⟩
        · rw [e]; have := HBL.out; unfold I64; omega
        · rw [e]; have := HQ.out j hj; unfold I64; omega
        · rw [e]; have := HQ.out j hj; unfold I64; omega
      · rcases HRow.out.2 with ⟨h1, h2⟩ | ⟨g2, c2, cur, h1, hg2, hb2, _⟩
        · exact absurd h2 (by rw [HLc.out]; omega)
        · obtain ⟨rfl, rfl⟩ : av = some ⟨g2, 0, none⟩ ∧ cv = c2 := by simpa using h1
          refine ⟨g2, 0, fun _ => rfl, fun i hi => ?_⟩
          rw [Nat.zero_add]
          refine tr _ _ _ _ _ (by omega) ?_
          rw [World.ownsRow.cellAt HRow.out i (by omega)]; exact clI_get _ hi
/-- Stretches with an error. -/
def TriA (M : List Tri) (E : Int) (w : World) (e : Ending) (w' : World) : Prop := ∃ b c, e = .returned (.tuple #[.slice b M.length c, .int .i64 E]) ∧ TriS w' b M ∧ Below w.heap.size w w'
end Go.Proofs.YtneafbhiencjlaaGreatDoor

namespace Go.Proofs.YtneafbhiencjlaaGreatDoor
set_option linter.unusedVariables false
set_option linter.unusedSimpArgs false
open Go.RowKit

/-- One sign more in a row. -/
def stepI (L dir h : Int) (r : List Sgn) (x : Sgn) : List Sgn :=
  if selB dir h x = true then r.take (plcS L dir x r r.length) ++ x :: r.drop (plcS L dir x r r.length) else r
def insA (L dir h : Int) (l : List Sgn) : List Sgn := insR L dir h l l.length
theorem take_snoc (l : List Sgn) {k : Nat} (hk : k < l.length) : l.take (k + 1) = l.take k ++ [gs l k] := by
  rw [List.take_succ_eq_append_getElem hk, gs_at _ hk]
theorem selR_take (dir h : Int) (l : List Sgn) : ∀ k, k ≤ l.length → selR dir h l k = (l.take k).filter (fun x => selB dir h x)
  | 0, _ => rfl
  | k + 1, hk => by
    rw [selR, selR_take dir h l k (by omega), take_snoc l (by omega), List.filter_append]
    by_cases hx : selB dir h (gs l k) = true
    · rw [if_pos hx]; simp [hx]
    · rw [if_neg hx]; simp [hx]
theorem selR_filter (dir h : Int) (l : List Sgn) : selR dir h l l.length = l.filter (fun x => selB dir h x) := by
  rw [selR_take dir h l l.length (Nat.le_refl _), List.take_length]
/-- Valid signs, as a list. -/
theorem sgns_iff (L : Int) (js : List Int) (l : List Sgn) : sgnsB L js l = true ↔ lineB L js = true ∧ l.length ≤ 100 ∧ (∀ x, x ∈ l → (btw x.n 1 1000000000 = true ∧ sgnB L x = true)) ∧ (l.map (·.n)).Nodup := by
  have hat : ∀ x, x ∈ l → ∃ k, k < l.length ∧ gs l k = x := fun x hx => by
    obtain ⟨k, hk, e⟩ := List.getElem_of_mem hx
    exact ⟨k, hk, by rw [gs_at _ hk, e]⟩
  constructor
  · intro h
    refine ⟨sgns_line h, ?_, fun x hx => ?_, ?_⟩
    · by_cases h9 : 100 < l.length
      · rw [s_bad9 h9] at h; cases h
      · omega
    · obtain ⟨k, hk, rfl⟩ := hat x hx
      constructor
      · cases e : btw (gs l k).n 1 1000000000 with
        | true => rfl
        | false => rw [s_bad1 hk e] at h; cases h
      · cases e : sgnB L (gs l k) with
        | true => rfl
        | false => rw [s_bad2 hk e] at h; cases h
    · rw [List.nodup_iff_pairwise_ne, List.pairwise_iff_getElem]
      intro i j hi hj hij e
      rw [List.getElem_map, List.getElem_map] at e
      have hi : i < l.length := by simpa using hi
      have hj : j < l.length := by simpa using hj
      rw [← gs_at _ hi, ← gs_at _ hj] at e
      rw [s_bad3 hj hij e] at h; cases h
  · rintro ⟨h0, h9, h, hn⟩
    refine s_end h0 h9 fun k hk => ?_
    have hm : gs l k ∈ l := by rw [gs_at _ hk]; exact List.getElem_mem hk
    refine ⟨(h _ hm).1, (h _ hm).2, fun j hj e => ?_⟩
    rw [List.nodup_iff_pairwise_ne, List.pairwise_iff_getElem] at hn
    refine hn j k (by simpa using (by omega : j < l.length)) (by simpa using hk) hj ?_
    rw [List.getElem_map, List.getElem_map, ← gs_at _ (by omega : j < l.length), ← gs_at _ hk]
    exact e
theorem lst_iff (L : Int) (js : List Int) (l : List Sgn) : lstE L js l [] = 0 ↔ sgnsB L js l = true := by
  constructor
  · intro h; exact lst_sgns h
  · intro h
    unfold lstE
    rw [sgns_line h, h, edcs_nil, sgns_line h]
    rfl
/-- The signs that speak, of the first k. -/
def spkL (h : Int) (l : List Sgn) : Nat → List Sgn
  | 0 => []
  | k + 1 => if spkB (gs l k) h = true then spkL h l k ++ [gs l k] else spkL h l k
/-- A sign that a cover silences over all its hours. -/
def cvr (x : Sgn) : Sgn := { x with cv := [(x.up, x.dn)] }
/-- All of the first k but number z; and all, number z covered. -/
def othL (z : Nat) (l : List Sgn) : Nat → List Sgn
  | 0 => []
  | k + 1 => if k = z then othL z l k else othL z l k ++ [gs l k]
def covL (z : Nat) (l : List Sgn) : Nat → List Sgn
  | 0 => []
  | k + 1 => covL z l k ++ [if k = z then cvr (gs l k) else gs l k]
/-- All but plates of the first k; and these but warnings and repeats. -/
def allL (l : List Sgn) : Nat → List Sgn
  | 0 => []
  | k + 1 => if (gs l k).k = 7 then allL l k else allL l k ++ [gs l k]
def keepB (x : Sgn) : Bool := !(x.k == 8) && !(x.k == 6)
def somL (l : List Sgn) : Nat → List Sgn
  | 0 => []
  | k + 1 => if (gs l k).k = 7 then somL l k else if (gs l k).k = 8 then somL l k else if (gs l k).k = 6 then somL l k else somL l k ++ [gs l k]
end Go.Proofs.YtneafbhiencjlaaGreatDoor
