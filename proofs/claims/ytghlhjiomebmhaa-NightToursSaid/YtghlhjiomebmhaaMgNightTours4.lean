/-
  How package night finds a night for a job, as functions over lists: the search by moving others. By an AI agent.; vacate of package night: what it returns and leaves, if place does so one level deeper. By an AI agent.; place of package night does what the search over lists does. By an AI agent.; choices of package night. By an AI agent.
-/
import Derived.Test.YtghlhjiomebmhaaMgNightTours3
import Derived.Deep.RegionHeld3
import Derived.BigQuiet
import Derived.Deep.AppendLies

namespace Go.Proofs.Ytghlhjiomebmhaa
set_option linter.unusedVariables false
set_option linter.unusedSimpArgs false
open Go.RowKit

/-- What a search leaves: whether it found a place, the plan, the nights that were tried. -/
abbrev Srch := Bool × List Int × (Int → Bool)
/-- The jobs from k on (m of them): one of them that has the night n goes elsewhere. -/
def vacL (F : Nat → List Int → (Int → Bool) → Srch) (n : Int) : Nat → Nat → List Int → (Int → Bool) → Srch
  | 0, _, pl, tr => (false, pl, tr)
  | m + 1, k, pl, tr =>
    if gi pl k = n then
      (if (F k pl tr).1 = true then (true, (F k pl tr).2.1, (F k pl tr).2.2) else vacL F n m (k + 1) (F k pl tr).2.1 (F k pl tr).2.2)
    else vacL F n m (k + 1) pl tr
/-- A place in the night n. -/
def vacF (F : Nat → List Int → (Int → Bool) → Srch) (P : List Int) (fr : Nat) (n : Int) (pl : List Int) (tr : Int → Bool) : Srch :=
  if cntN pl n < gi P n.toNat then (true, pl, tr) else vacL F n (pl.length - fr) fr pl tr
/-- The first of some nights in which a job finds a place. -/
def plcL (V : Int → List Int → (Int → Bool) → Srch) (job : Nat) : List Int → List Int → (Int → Bool) → Srch
  | [], pl, tr => (false, pl, tr)
  | n :: r, pl, tr =>
    if tr n = true then plcL V job r pl tr
    else if (V n pl (setAt tr n true)).1 = true then (true, (V n pl (setAt tr n true)).2.1.set job n, (V n pl (setAt tr n true)).2.2)
    else plcL V job r (V n pl (setAt tr n true)).2.1 (V n pl (setAt tr n true)).2.2
/-- The search for a job, d deep at most. -/
def plF (C : List (List Int)) (P : List Int) (fr : Nat) : Nat → Nat → List Int → (Int → Bool) → Srch
  | 0, _, pl, tr => (false, pl, tr)
  | d + 1, job, pl, tr => plcL (vacF (plF C P fr d) P fr) job (gr C job) pl tr

/-- How many of the first N nights were not tried. -/
def untr (tr : Int → Bool) : Nat → Nat
  | 0 => 0
  | k + 1 => untr tr k + (if tr k = true then 0 else 1)
theorem untr_mono {tr tr' : Int → Bool} (h : ∀ x, tr x = true → tr' x = true) : ∀ N, untr tr' N ≤ untr tr N
  | 0 => Nat.le_refl _
  | k + 1 => by
    have := untr_mono h k
    unfold untr
    by_cases e : tr k = true
    · rw [if_pos e, if_pos (h _ e)]; omega
    · rw [if_neg e]; split <;> omega
theorem untr_set_ge {tr : Int → Bool} {n : Nat} : ∀ N, N ≤ n → untr (setAt tr n true) N = untr tr N
  | 0, _ => rfl
  | k + 1, h => by
    have := untr_set_ge (tr := tr) (n := n) k (by omega)
    have e : setAt tr (n : Int) true (k : Int) = tr k := by unfold setAt; rw [if_neg (by omega)]
    unfold untr
    rw [this, e]
theorem untr_set {tr : Int → Bool} {n : Nat} (ht : tr n = false) : ∀ N, n < N → untr (setAt tr n true) N + 1 = untr tr N
  | 0, h => by omega
  | k + 1, h => by
    by_cases e : n = k
    · subst e
      have h1 := untr_set_ge (tr := tr) (n := n) n (Nat.le_refl _)
      have e : setAt tr (n : Int) true (n : Int) = true := by unfold setAt; rw [if_pos rfl]
      unfold untr
      rw [h1, e, ht]
      simp
    · have h1 := untr_set ht k (by omega)
      have e : setAt tr (n : Int) true (k : Int) = tr k := by unfold setAt; rw [if_neg (by omega)]
      unfold untr
      rw [e]
      omega
theorem setAt_mono (tr : Int → Bool) (n : Int) : ∀ x, tr x = true → setAt tr n true x = true := by
  intro x h
  unfold setAt
  split
  · rfl
  · exact h
/-- A search keeps the length of the plan, and what was tried stays so. -/
def Keeps (F : List Int → (Int → Bool) → Srch) : Prop := ∀ pl tr, (F pl tr).2.1.length = pl.length ∧ ∀ x, tr x = true → (F pl tr).2.2 x = true
theorem vacL_keeps {F : Nat → List Int → (Int → Bool) → Srch} (hF : ∀ k, Keeps (F k)) (n : Int) : ∀ m k, Keeps (vacL F n m k)
  | 0, k => fun pl tr => ⟨rfl, fun x h => h⟩
  | m + 1, k => fun pl tr => by
    have h1 := hF k pl tr
    unfold vacL
    by_cases e : gi pl k = n
    · rw [if_pos e]
      by_cases e2 : (F k pl tr).1 = true
      · rw [if_pos e2]; exact h1
      · rw [if_neg e2]
        have h2 := vacL_keeps hF n m (k + 1) (F k pl tr).2.1 (F k pl tr).2.2
        exact ⟨h2.1.trans h1.1, fun x h => h2.2 x (h1.2 x h)⟩
    · rw [if_neg e]; exact vacL_keeps hF n m (k + 1) pl tr
theorem vacF_keeps {F : Nat → List Int → (Int → Bool) → Srch} (hF : ∀ k, Keeps (F k)) (P : List Int) (fr : Nat) (n : Int) : Keeps (vacF F P fr n) := by
  intro pl tr
  unfold vacF
  split
  · exact ⟨rfl, fun x h => h⟩
  · exact vacL_keeps hF n _ _ pl tr
theorem plcL_keeps {V : Int → List Int → (Int → Bool) → Srch} (hV : ∀ n, Keeps (V n)) (job : Nat) : ∀ l, Keeps (plcL V job l)
  | [] => fun pl tr => ⟨rfl, fun x h => h⟩
  | n :: r => fun pl tr => by
    have h1 := hV n pl (setAt tr n true)
    have h0 := setAt_mono tr n
    unfold plcL
    by_cases e : tr n = true
    · rw [if_pos e]; exact plcL_keeps hV job r pl tr
    · rw [if_neg e]
      by_cases e2 : (V n pl (setAt tr n true)).1 = true
      · rw [if_pos e2]; exact ⟨by simp [h1.1], fun x h => h1.2 x (h0 x h)⟩
      · rw [if_neg e2]
        have h2 := plcL_keeps hV job r (V n pl (setAt tr n true)).2.1 (V n pl (setAt tr n true)).2.2
        exact ⟨h2.1.trans h1.1, fun x h => h2.2 x (h1.2 x (h0 x h))⟩
theorem plF_keeps (C : List (List Int)) (P : List Int) (fr : Nat) : ∀ d job, Keeps (plF C P fr d job)
  | 0, job => fun pl tr => ⟨rfl, fun x h => h⟩
  | d + 1, job => fun pl tr => by
    show _ ∧ _
    exact plcL_keeps (fun n => vacF_keeps (fun k => plF_keeps C P fr d k) P fr n) job (gr C job) pl tr

/-- The plan in memory: ints at the head of a block that may be written. -/
def PlanR (w : World) (b : Nat) (pl : List Int) : Prop := (∀ i, i < pl.length → w.cell? ⟨b, i, none⟩ = some (.int .i64 (gi pl i))) ∧ ∀ i, i < pl.length → w.frozen? ⟨b, i, none⟩ = false
theorem gi_set (l : List Int) (j : Nat) (v : Int) (i : Nat) (hj : j < l.length) : gi (l.set j v) i = if i = j then v else gi l i := by
  unfold gi
  rw [List.getD_eq_getElem?_getD, List.getD_eq_getElem?_getD, List.getElem?_set]
  by_cases e : j = i
  · subst e; rw [if_pos rfl, if_pos rfl, if_pos hj]; rfl
  · rw [if_neg e, if_neg (fun h => e h.symm)]
theorem PlanR.ints {w : World} {b : Nat} {pl : List Int} (h : PlanR w b pl) (hn : pl.length ≤ 9223372036854775807) : IntsC w (some ⟨b, 0, none⟩) pl :=
  ⟨hn, b, 0, fun _ => rfl, fun i hi => by rw [Nat.zero_add]; exact h.1 i hi⟩
theorem PlanR.same {w w' : World} {b : Nat} {pl : List Int} (h : PlanR w b pl) (hb : w'.heap[b]? = w.heap[b]?) : PlanR w' b pl :=
  ⟨fun i hi => (World.cell?_of_block (w := w) (w' := w') (a := ⟨b, i, none⟩) hb).trans (h.1 i hi), fun i hi => (World.frozen?_of_block (w := w) (w' := w') (a := ⟨b, i, none⟩) hb).trans (h.2 i hi)⟩
/-- A world that differs from w in two blocks alone, and in new ones. -/
structure Two (bp bt : Nat) (w w' : World) : Prop where
  os : w'.os = w.os
  tape : w'.tape = w.tape
  output : w'.output = w.output
  size : w.heap.size ≤ w'.heap.size
  block : ∀ k, k < w.heap.size → k ≠ bp → k ≠ bt → w'.heap[k]? = w.heap[k]?
theorem Two.refl (bp bt : Nat) (w : World) : Two bp bt w w := ⟨rfl, rfl, rfl, Nat.le_refl _, fun _ _ _ _ => rfl⟩
theorem Two.trans {bp bt : Nat} {a b c : World} (h : Two bp bt a b) (h' : Two bp bt b c) : Two bp bt a c :=
  ⟨h'.os.trans h.os, h'.tape.trans h.tape, h'.output.trans h.output, Nat.le_trans h.size h'.size, fun k hk h1 h2 => (h'.block k (Nat.lt_of_lt_of_le hk h.size) h1 h2).trans (h.block k hk h1 h2)⟩
theorem Two.of {bp bt : Nat} {w w' : World} (h : Below w.heap.size w w') : Two bp bt w w' := ⟨h.os, h.tape, h.output, h.size, fun k hk _ _ => h.block k hk⟩
theorem Two.grown {bp bt : Nat} {w w' : World} (h : w.grownBy w' (some bt)) : Two bp bt w w' :=
  ⟨h.os, h.tape, h.output, h.size, fun k hk _ h2 => h.block k hk (fun e => h2 (by cases e; rfl))⟩
theorem Two.set {bp bt : Nat} (w : World) (i : Nat) (v : Value) : Two bp bt w (w.setCell ⟨bp, i, none⟩ v) :=
  have h := (Below.refl 0 w).setCell (p := ⟨bp, i, none⟩) (Nat.zero_le _) v
  ⟨h.os, h.tape, h.output, h.size, fun k hk h1 _ => Below.heap_setCell w ⟨bp, i, none⟩ v k h1⟩
theorem Two.drew {bp bt : Nat} {w w' : World} (h : Two bp bt w w') : Two bp bt w w'.drew := ⟨h.os, h.tape, h.output, h.size, h.block⟩
theorem Two.alloc {bp bt : Nat} {w w' : World} (h : Two bp bt w w') (o : Obj) : Two bp bt w (w'.alloc o) := h.trans (Two.of ((Below.refl _ _).alloc (Nat.le_refl _) o))
theorem Two.cell {bp bt : Nat} {w w' : World} (h : Two bp bt w w') {b o : Nat} {v : Value} (hc : w.cell? ⟨b, o, none⟩ = some v) (h1 : b ≠ bp) (h2 : b ≠ bt) : w'.cell? ⟨b, o, none⟩ = some v :=
  (World.cell?_of_block (w := w) (w' := w') (a := ⟨b, o, none⟩) (h.block b (block_lt hc) h1 h2)).trans hc
theorem Two.below {bp bt B : Nat} {w w' : World} (h : Two bp bt w w') (h1 : B ≤ bp) (h2 : B ≤ bt) (h3 : B ≤ w.heap.size) : Below B w w' :=
  ⟨h.os, h.tape, h.output, h.size, fun k hk => h.block k (by omega) (by omega) (by omega)⟩
theorem PlanR.store {w : World} {b : Nat} {pl : List Int} (h : PlanR w b pl) {j : Nat} (hj : j < pl.length) (v : Int) : PlanR (w.setCell ⟨b, j, none⟩ (.int .i64 v)) b (pl.set j v) := by
  refine ⟨fun i hi => ?_, fun i hi => ?_⟩
  · rw [List.length_set] at hi
    rw [gi_set pl j v i hj]
    have h1 := h.1 i hi
    have h2 := h.2 j hj
    have h3 := h.1 j hj
    by_cases e : i = j
    · subst e; rw [if_pos rfl]; simp [go_sem, h1]
    · rw [if_neg e]; simp [go_sem, h1, e, h3]
  · rw [List.length_set] at hi
    rw [World.frozen?_setCell]
    exact h.2 i hi
end Go.Proofs.Ytghlhjiomebmhaa

namespace Go.Proofs.Ytghlhjiomebmhaa
set_option linter.unusedVariables false
set_option linter.unusedSimpArgs false
open Go.RowKit

abbrev MB (w : World) (b n : Nat) (f : Int → Bool) : Prop := MapB Try.prog 3 4 w b n f
/-- What a search comes back with. -/
def PlE (bp bt nt N : Nat) (w : World) (tr : Int → Bool) (r : Srch) (e : Ending) (w' : World) : Prop :=
  e = .returned (.bool r.1) ∧ PlanR w' bp r.2.1 ∧ (∃ nt', MB w' bt nt' r.2.2 ∧ nt' + untr r.2.2 N ≤ nt + untr tr N) ∧ Two bp bt w w'
theorem plE_of {bp bt nt N : Nat} {w : World} {tr : Int → Bool} {r r' : Srch} {e : Ending} {w' : World} (h : r' = r) (g : PlE bp bt nt N w tr r e w') : PlE bp bt nt N w tr r' e w' := by rw [h]; exact g
/-- What a search asks of memory: the offer lies below the plan and the map, which lie apart. -/
structure SrP (w0 w : World) (C : List (List Int)) (P : List Int) (ac ap : Option Addr) (L N bp bt nt : Nat) (pl : List Int) (tr : Int → Bool) (d : Nat) : Prop where
  rows : RowsS w0 ac C
  ints : IntsS w0 ap P
  bel : Below w0.heap.size w0 w
  lp : w0.heap.size ≤ bp
  lt : w0.heap.size ≤ bt
  ne : bp ≠ bt
  sp : bp < w.heap.size
  cl : C.length = L
  pn : P.length = N
  len : pl.length = L
  plan : PlanR w bp pl
  map : MB w bt nt tr
  un : untr tr N < d
  room : nt + untr tr N ≤ 100000
  small : L ≤ 1000
  smallN : N ≤ 1000
  ent : ∀ i, i < L → ∀ j, j < (gr C i).length → ∃ m : Nat, gi (gr C i) j = m ∧ m < N
/-- place does what the search over lists does. -/
def PlaceC (d : Nat) : Prop := ∀ (w0 w : World) (C : List (List Int)) (P : List Int) (ac ap : Option Addr) (cc cp L N bp bt nt cap : Nat) (pl : List Int) (tr : Int → Bool) (fr job : Nat),
  SrP w0 w C P ac ap L N bp bt nt pl tr d → job < L → fr ≤ L →
  Calls Try.prog 64 #[.agg #[.slice ac L cc, .slice ap N cp], .slice (some ⟨bp, 0, none⟩) L cap, .int .i64 job, .int .i64 fr, .map (some bt)] w fun e w' => PlE bp bt nt N w tr (plF C P fr d job pl tr) e w'

set_option maxRecDepth 100000 in
set_option maxHeartbeats 4000000 in
theorem vacate_v {d : Nat} (IH : PlaceC d) (w0 w : World) (C : List (List Int)) (P : List Int) (ac ap : Option Addr) (cc cp L N bp bt nt cap : Nat) (pl : List Int) (tr : Int → Bool) (fr n : Nat)
    (h : SrP w0 w C P ac ap L N bp bt nt pl tr d) (hn : n < N) (hfr : fr ≤ L) :
    Calls Try.prog 76 #[.agg #[.slice ac L cc, .slice ap N cp], .slice (some ⟨bp, 0, none⟩) L cap, .int .i64 n, .int .i64 fr, .map (some bt)] w fun e w' => PlE bp bt nt N w tr (vacF (plF C P fr d) P fr n pl tr) e w' := by
  have HIH := Lib.hid IH
  have H := Lib.hid h
  have hKp : Hid (∀ k pl tr, ((plF C P fr d) k pl tr).2.1.length = pl.length ∧ untr ((plF C P fr d) k pl tr).2.2 N ≤ untr tr N) := Lib.hid fun k pl tr => ⟨(plF_keeps C P fr d k pl tr).1, untr_mono (plF_keeps C P fr d k pl tr).2 N⟩
  have HJ : Hid (∀ (w1 : World) (nt1 k : Nat) (pl1 : List Int) (tr1 : Int → Bool), Two bp bt w w1 → pl1.length = L → PlanR w1 bp pl1 → MB w1 bt nt1 tr1 → untr tr1 N < d → nt1 + untr tr1 N ≤ 100000 → k < L →
      Calls Try.prog 64 #[.agg #[.slice ac L cc, .slice ap N cp], .slice (some ⟨bp, 0, none⟩) L cap, .int .i64 k, .int .i64 fr, .map (some bt)] w1 fun e w' => PlE bp bt nt1 N w1 tr1 ((plF C P fr d) k pl1 tr1) e w') :=
    Lib.hid fun w1 nt1 k pl1 tr1 h2 h3 h4 h5 h6 h7 h8 => IH w0 w1 C P ac ap cc cp L N bp bt nt1 cap pl1 tr1 fr k
      ⟨h.rows, h.ints, h.bel.trans (h2.below h.lp h.lt h.bel.size), h.lp, h.lt, h.ne, Nat.lt_of_lt_of_le h.sp h2.size, h.cl, h.pn, h3, h4, h5, h6, h7, h.small, h.smallN, h.ent⟩ h8 hfr
  obtain ⟨hlenP, hb64, pb, po, padr, hpc⟩ := h.ints.below h.bel
  have hPN : n < P.length := by rw [h.pn]; exact hn
  obtain rfl := padr (pos_ne (n := 0) hPN)
  have cP := hpc n hPN
  have hne := h.ne
  have hsp := h.sp
  have hst := h.map.lt
  have hpl0 := h.plan
  have hm0 := h.map
  have hlen := Lib.hid h.len
  have hL := h.small
  have hun := h.un
  have hroom := h.room
  have hpb : pb ≠ bp ∧ pb ≠ bt ∧ pb < w.heap.size := by
    obtain ⟨hl1, hb1, pb1, po1, padr1, hpc1⟩ := h.ints
    have e := padr1 (pos_ne (n := 0) hPN)
    obtain ⟨rfl, rfl⟩ : pb = pb1 ∧ po = po1 := by simpa using e
    have := block_lt (hpc1 n hPN)
    have h1 := h.lp
    have h2 := h.lt
    have h3 := h.bel.size
    exact ⟨by omega, by omega, by omega⟩
  obtain ⟨hpb1, hpb2, hpb3⟩ := hpb
  have HC := Lib.hid (fun W (hW : PlanR W bp pl) => count_r (some ⟨bp, 0, none⟩) pl cap n W (hW.ints (by rw [hlen.out]; omega)) (by rw [hlen.out]; omega))
  have hXF : Hid (vacF (plF C P fr d) P fr n pl tr = if cntN pl n < gi P n then (true, pl, tr) else vacL (plF C P fr d) n (L - fr) fr pl tr) := Lib.hid (by unfold vacF; rw [hlen.out, Int.toNat_natCast])
  rw [hlen.out] at HC
  clear IH h H hpc padr hb64 hlenP HIH
  have hSt : Hid (∀ k pl tr, k < L → vacL (plF C P fr d) n (L - k) k pl tr = if gi pl k = n then
      (if ((plF C P fr d) k pl tr).1 = true then (true, ((plF C P fr d) k pl tr).2.1, ((plF C P fr d) k pl tr).2.2) else vacL (plF C P fr d) n (L - (k + 1)) (k + 1) ((plF C P fr d) k pl tr).2.1 ((plF C P fr d) k pl tr).2.2)
    else vacL (plF C P fr d) n (L - (k + 1)) (k + 1) pl tr) := Lib.hid fun k pl tr hk => by rw [show L - k = (L - (k + 1)) + 1 by omega]; rfl
  have hEnd : Hid (∀ pl tr, vacL (plF C P fr d) n (L - L) L pl tr = (false, pl, tr)) := Lib.hid fun pl tr => by rw [Nat.sub_self]; rfl
  generalize vacF (plF C P fr d) P fr n pl tr = RES at *
  generalize plF C P fr d = F at *
  generalize gi P n = pn at *
  obtain ⟨wB, hwB⟩ : ∃ wB, w.alloc (.cells #[.slice ac L cc, .slice (some ⟨pb, po, none⟩) N cp] 64) = wB := ⟨_, rfl⟩
  have hbB : Below w.heap.size w wB := by rw [← hwB]; exact (Below.refl _ _).alloc (Nat.le_refl _) _
  have p0 : wB.cell? ⟨w.heap.size, 0, none⟩ = some (.slice ac L cc) := by rw [← hwB]; simp [go_sem]
  have p1 : wB.cell? ⟨w.heap.size, 1, none⟩ = some (.slice (some ⟨pb, po, none⟩) N cp) := by rw [← hwB]; simp [go_sem]
  have cP := cell_below cP hbB
  have hplB : PlanR wB bp pl := hpl0.same (hbB.block bp hsp)
  have hmB : MB wB bt nt tr := hm0.below hst hbB
  have hTB : Two bp bt w wB := Two.of hbB
  have hn1 : (n : Int) < N := by omega
  have hz0 := block_lt p0
  have hzP := block_lt cP
  have hzp : bp < wB.heap.size := Nat.lt_of_lt_of_le hsp hbB.size
  have hzt := hmB.lt
  clear hpl0 hm0
  generalize hcn : cntN pl n = cn at *
  by_cases hc : cn < pn
  · have hcd : decide (cn < pn) = true := decide_eq_true hc
    have hR : Hid (RES = (true, pl, tr)) := Lib.hid (by rw [hXF.out, if_pos hc])
    clear hXF hSt hEnd hKp HJ hcn
    go_enter Try.func76, Try.ntmps76
    go_wp2_with fail
    go_region_held3 (fun w' => w'.cell? ⟨w.heap.size, 0, none⟩ = some (.slice ac L cc) ∧ w'.cell? ⟨w.heap.size, 1, none⟩ = some (.slice (some ⟨pb, po, none⟩) N cp) ∧ w'.cell? ⟨pb, po + n, none⟩ = some (.int .i64 pn)) (go_keep)
      ((go_at_call 57
        refine (HC.out _ (by first | exact hplB | exact hplB.same rfl)).mono ?_
        rintro E w9 ⟨rfl, hb9⟩
        have p0 := (hb9.cell (p := ⟨w.heap.size, 0, none⟩) hz0).trans p0
        have p1 := (hb9.cell (p := ⟨w.heap.size, 1, none⟩) hz0).trans p1
        have cP := (hb9.cell (p := ⟨pb, po + n, none⟩) hzP).trans cP
        have hplB : PlanR w9 bp pl := hplB.same (hb9.block bp hzp)
        have hmB : MB w9 bt nt tr := hmB.same (hb9.block bt hzt)
        have hTB : Two bp bt w w9 := by first | exact hTB.trans (Two.of hb9) | exact hTB.drew.trans (Two.of hb9)))
    all_goals
      go_wp2_with fail
      go_ret
      refine plE_of hR.out ⟨rfl, by first | exact hplB | exact hplB.same rfl, ⟨nt, by first | exact hmB | exact hmB.drew, Nat.le_refl _⟩, by first | exact hTB | exact hTB.drew⟩
  · have hcd : decide (cn < pn) = false := decide_eq_false hc
    have hR : Hid (RES = vacL F n (L - fr) fr pl tr) := Lib.hid (by rw [hXF.out, if_neg hc])
    clear hXF hcn
    go_enter Try.func76, Try.ntmps76
    go_wp2_with fail
    go_region_held3 (fun w' => w'.cell? ⟨w.heap.size, 0, none⟩ = some (.slice ac L cc) ∧ w'.cell? ⟨w.heap.size, 1, none⟩ = some (.slice (some ⟨pb, po, none⟩) N cp) ∧ w'.cell? ⟨pb, po + n, none⟩ = some (.int .i64 pn)) (go_keep)
      ((go_at_call 57
        refine (HC.out _ (by first | exact hplB | exact hplB.same rfl)).mono ?_
        rintro E w9 ⟨rfl, hb9⟩
        have p0 := (hb9.cell (p := ⟨w.heap.size, 0, none⟩) hz0).trans p0
        have p1 := (hb9.cell (p := ⟨w.heap.size, 1, none⟩) hz0).trans p1
        have cP := (hb9.cell (p := ⟨pb, po + n, none⟩) hzP).trans cP
        have hplB : PlanR w9 bp pl := hplB.same (hb9.block bp hzp)
        have hmB : MB w9 bt nt tr := hmB.same (hb9.block bt hzt)
        have hTB : Two bp bt w w9 := by first | exact hTB.trans (Two.of hb9) | exact hTB.drew.trans (Two.of hb9)))
    all_goals
      obtain ⟨HPl, HM, HT, hd0, hd1, hun', hroom', hLs, hfr'⟩ : Hid (PlanR w9 bp pl) ∧ Hid (MB w9 bt nt tr) ∧ Hid (Two bp bt w w9) ∧ Hid (w9.cell? ⟨w.heap.size, 0, none⟩ = some (.slice ac L cc)) ∧ Hid (w9.cell? ⟨w.heap.size, 1, none⟩ = some (.slice (some ⟨pb, po, none⟩) N cp)) ∧ Hid (untr tr N < d) ∧ Hid (nt + untr tr N ≤ 100000) ∧ Hid (L ≤ 1000) ∧ Hid (fr ≤ L) := ⟨Lib.hid hplB, Lib.hid hmB, Lib.hid hTB, Lib.hid p0, Lib.hid p1, Lib.hid hun, Lib.hid hroom, Lib.hid hL, Lib.hid hfr⟩
      clear HC cP hplB hmB hTB hzP hb9 p0 p1 hun hroom
      have hsz : w.heap.size ≠ bp ∧ w.heap.size ≠ bt := ⟨by omega, by omega⟩
      obtain ⟨hs1, hs2⟩ := hsz
      go_wp2_with fail
      go_loopw [11] (fun v wr => ∃ (k nk : Nat) (q : List Int) (t : Int → Bool), k ≤ L ∧ fr ≤ k ∧ v = .int .i64 k ∧ Hid (q.length = L) ∧ Hid (PlanR wr bp q) ∧ Hid (MB wr bt nk t) ∧ Hid (untr t N < d) ∧ Hid (nk + untr t N ≤ nt + untr tr N) ∧ Hid (Two bp bt w wr) ∧ wr.cell? ⟨w.heap.size, 0, none⟩ = some (.slice ac L cc) ∧ wr.cell? ⟨w.heap.size, 1, none⟩ = some (.slice (some ⟨pb, po, none⟩) N cp) ∧ Hid (RES = vacL F n (L - k) k q t)) (fun v _ => L - (intOf v).toNat)
      case atStart => exact ⟨fr, nt, pl, tr, hfr, Nat.le_refl _, rfl, hlen, by first | exact HPl | exact Lib.hid (HPl.out.same rfl), by first | exact HM | exact Lib.hid HM.out.drew, hun', Lib.hid (Nat.le_refl _), by first | exact HT | exact Lib.hid HT.out.drew, by first | exact hd0.out | rfl, by first | exact hd1.out | rfl, hR⟩
      case round =>
        obtain ⟨k, nk, q, t, hk, hfk, rfl, hq, HPl, HM, hut, hnk, HT, p0, p1, hR⟩ := hrel
        clear hcd
        by_cases hlt : k < L
        · have cq := HPl.out.1 k (by rw [hq.out]; exact hlt)
          have hS := Lib.hid (hR.out.trans (hSt.out k q t hlt))
          have hr := hroom'.out
          have hnk' := hnk.out
          have HCa := Lib.hid (HJ.out wr nk k q t HT.out hq.out HPl.out HM.out hut.out (by omega) hlt)
          have hKk := Lib.hid (hKp.out k q t)
          clear hR hr hnk' HJ hSt hEnd hKp
          generalize gi q k = y at *
          have hk1 : (0 : Int) ≤ k := by omega
          have hk2 : (k : Int) < L := by omega
          by_cases hy : y = n
          · have hyd : (y == (n : Int)) = true := by simpa using hy
            have hS := Lib.hid (hS.out.trans (if_pos hy))
            clear hy
            generalize F k q t = r at *
            obtain ⟨b, q1, t1⟩ := r
            have hz0 := block_lt p0
            have hz9 : bp < wr.heap.size := Nat.lt_of_lt_of_le hsp HT.out.size
            have hzt9 := HM.out.lt
            cases b with
            | true =>
              have hS : Hid (RES = (true, q1, t1)) := Lib.hid (hS.out.trans (if_pos rfl))
              go_wp2_with fail
              refine HCa.out.mono ?_
              rintro e w5 ⟨rfl, h5, ⟨n5, h6, h7⟩, h8⟩
              go_wp2_with fail
              go_ret
              refine plE_of hS.out ⟨rfl, h5, ⟨n5, h6, Nat.le_trans h7 hnk.out⟩, HT.out.trans h8⟩
            | false =>
              have hS : Hid (RES = vacL F n (L - (k + 1)) (k + 1) q1 t1) := Lib.hid (hS.out.trans (if_neg (by simp)))
              go_wp2_with fail
              refine HCa.out.mono ?_
              rintro e w5 ⟨rfl, h5, ⟨n5, h6, h7⟩, h8⟩
              have H5 := Lib.hid h5
              have H6 := Lib.hid h6
              have H7 := Lib.hid (Nat.le_trans h7 hnk.out)
              have H8 := Lib.hid h8
              have p0 := h8.cell p0 hs1 hs2
              have p1 := h8.cell p1 hs1 hs2
              clear h5 h6 h7 h8 HCa HPl HM cq
              have hkk := hKk.out
              have hq1 : Hid (q1.length = L) := Lib.hid (hkk.1.trans hq.out)
              have hu1 : Hid (untr t1 N < d) := Lib.hid (Nat.lt_of_le_of_lt hkk.2 hut.out)
              clear hkk hKk
              go_wp2_with fail
              go_roundw
              case rel => exact ⟨k + 1, n5, q1, t1, by omega, by omega, by go_num, hq1, H5, H6, hu1, H7, Lib.hid (HT.out.trans H8.out), p0, p1, hS⟩
              case measure => simp [intOf]; omega
          · have hyd : (y == (n : Int)) = false := beq_false_of_ne hy
            have hS := Lib.hid (hS.out.trans (if_neg hy))
            clear hy HCa hKk
            go_wp2_with fail
            go_roundw
            case rel => exact ⟨k + 1, nk, q, t, by omega, by omega, by go_num, hq, HPl, HM, hut, hnk, HT, p0, p1, hS⟩
            case measure => simp [intOf]; omega
        · obtain rfl : k = L := by omega
          have hS := Lib.hid (hR.out.trans (hEnd.out q t))
          clear hR HJ hSt hEnd hKp
          go_wp2_with fail
          go_ret
          refine plE_of hS.out ⟨rfl, HPl.out, ⟨nk, HM.out, hnk.out⟩, HT.out⟩
end Go.Proofs.Ytghlhjiomebmhaa

namespace Go.Proofs.Ytghlhjiomebmhaa
set_option linter.unusedVariables false
set_option linter.unusedSimpArgs false
open Go.RowKit

theorem drop_gi (l : List Int) {k : Nat} (h : k < l.length) : l.drop k = gi l k :: l.drop (k + 1) := by
  rw [List.drop_eq_getElem_cons h]; unfold gi; simp [h]
set_option maxRecDepth 100000 in
set_option maxHeartbeats 4000000 in
theorem place_v {d : Nat} (IH : PlaceC d) : PlaceC (d + 1) := by
  intro w0 w C P ac ap cc cp L N bp bt nt cap pl tr fr job h hj hfr
  have hKp : Hid (∀ n pl tr, ((vacF (plF C P fr d) P fr n) pl tr).2.1.length = pl.length ∧ untr ((vacF (plF C P fr d) P fr n) pl tr).2.2 N ≤ untr tr N) := Lib.hid fun n pl tr => ⟨(vacF_keeps (fun k => plF_keeps C P fr d k) P fr n pl tr).1, untr_mono (vacF_keeps (fun k => plF_keeps C P fr d k) P fr n pl tr).2 N⟩
  have HV : Hid (∀ (w1 : World) (nt1 n : Nat) (pl1 : List Int) (tr1 : Int → Bool), Two bp bt w w1 → pl1.length = L → PlanR w1 bp pl1 → MB w1 bt nt1 tr1 → untr tr1 N < d → nt1 + untr tr1 N ≤ 100000 → n < N →
      Calls Try.prog 76 #[.agg #[.slice ac L cc, .slice ap N cp], .slice (some ⟨bp, 0, none⟩) L cap, .int .i64 n, .int .i64 fr, .map (some bt)] w1 fun e w' => PlE bp bt nt1 N w1 tr1 ((vacF (plF C P fr d) P fr n) pl1 tr1) e w') :=
    Lib.hid fun w1 nt1 n pl1 tr1 h2 h3 h4 h5 h6 h7 h8 => vacate_v IH w0 w1 C P ac ap cc cp L N bp bt nt1 cap pl1 tr1 fr n
      ⟨h.rows, h.ints, h.bel.trans (h2.below h.lp h.lt h.bel.size), h.lp, h.lt, h.ne, Nat.lt_of_lt_of_le h.sp h2.size, h.cl, h.pn, h3, h4, h5, h6, h7, h.small, h.smallN, h.ent⟩ h8 hfr
  have hRF : Hid (plF C P fr (d + 1) job pl tr = plcL (vacF (plF C P fr d) P fr) job (gr C job) pl tr) := Lib.hid rfl
  have hEn := Lib.hid (h.ent job hj)
  obtain ⟨hR0, rb, ro, ad, cpr, radr, hrc⟩ := h.rows
  have hjC : job < C.length := by rw [h.cl]; exact hj
  obtain rfl := radr (by rintro rfl; simp at hjC)
  obtain ⟨cR, hRI, -⟩ := hrc job hjC
  obtain ⟨hl64, hlI, lb, lo, ladr, hlc⟩ := hRI
  have hrb : rb < w0.heap.size := block_lt cR
  have h1 := h.lp
  have h2 := h.lt
  have h3 := h.bel.size
  have cR := cell_below cR h.bel
  have hLc : Hid (∀ k, k < (gr C job).length → ad job = some ⟨lb, lo, none⟩ ∧ lb < w0.heap.size ∧ w.cell? ⟨lb, lo + k, none⟩ = some (.int .i64 (gi (gr C job) k))) := Lib.hid fun k hk => ⟨ladr (pos_ne (n := 0) hk), block_lt (hlc k hk), cell_below (hlc k hk) h.bel⟩
  have hne := h.ne
  have hsp := h.sp
  have hst := h.map.lt
  have hpl0 := Lib.hid h.plan
  have hm0 := Lib.hid h.map
  have hlen := Lib.hid h.len
  have hL := h.small
  have hNs := h.smallN
  have hun := Lib.hid h.un
  have hroom := Lib.hid h.room
  clear IH h hrc hR0 hjC radr hlI ladr hlc
  have hj1 : (0 : Int) ≤ job := by omega
  have hj2 : (job : Int) < L := by omega
  have hD : Hid (∀ k pl tr, k < (gr C job).length → plcL (vacF (plF C P fr d) P fr) job ((gr C job).drop k) pl tr =
      if tr (gi (gr C job) k) = true then plcL (vacF (plF C P fr d) P fr) job ((gr C job).drop (k + 1)) pl tr
      else if ((vacF (plF C P fr d) P fr) (gi (gr C job) k) pl (setAt tr (gi (gr C job) k) true)).1 = true then (true, ((vacF (plF C P fr d) P fr) (gi (gr C job) k) pl (setAt tr (gi (gr C job) k) true)).2.1.set job (gi (gr C job) k), ((vacF (plF C P fr d) P fr) (gi (gr C job) k) pl (setAt tr (gi (gr C job) k) true)).2.2)
      else plcL (vacF (plF C P fr d) P fr) job ((gr C job).drop (k + 1)) ((vacF (plF C P fr d) P fr) (gi (gr C job) k) pl (setAt tr (gi (gr C job) k) true)).2.1 ((vacF (plF C P fr d) P fr) (gi (gr C job) k) pl (setAt tr (gi (gr C job) k) true)).2.2) :=
    Lib.hid fun k pl tr hk => by rw [drop_gi _ hk]; rfl
  have hD0 : Hid (plF C P fr (d + 1) job pl tr = plcL (vacF (plF C P fr d) P fr) job ((gr C job).drop 0) pl tr) := hRF
  have hDE : Hid (∀ pl tr, plcL (vacF (plF C P fr d) P fr) job ((gr C job).drop (gr C job).length) pl tr = (false, pl, tr)) := Lib.hid fun pl tr => by rw [List.drop_length]; rfl
  clear hRF
  generalize plF C P fr (d + 1) job pl tr = RES at *
  generalize vacF (plF C P fr d) P fr = V at *
  generalize gr C job = l at *
  generalize ad job = la at *
  generalize cpr job = lc at *
  obtain ⟨wB, hwB⟩ : ∃ wB, w.alloc (.cells #[.slice (some ⟨rb, ro, none⟩) L cc, .slice ap N cp] 64) = wB := ⟨_, rfl⟩
  have hbB : Below w.heap.size w wB := by rw [← hwB]; exact (Below.refl _ _).alloc (Nat.le_refl _) _
  have p0 : wB.cell? ⟨w.heap.size, 0, none⟩ = some (.slice (some ⟨rb, ro, none⟩) L cc) := by rw [← hwB]; simp [go_sem]
  have p1 : wB.cell? ⟨w.heap.size, 1, none⟩ = some (.slice ap N cp) := by rw [← hwB]; simp [go_sem]
  have cR := cell_below cR hbB
  have hplB : Hid (PlanR wB bp pl) := Lib.hid (hpl0.out.same (hbB.block bp hsp))
  have hmB : Hid (MB wB bt nt tr) := Lib.hid (hm0.out.below hst hbB)
  have hTB : Hid (Two bp bt w wB) := Lib.hid (Two.of hbB)
  have hs1 : w.heap.size ≠ bp := by omega
  have hs2 : w.heap.size ≠ bt := by omega
  clear hpl0 hm0 hbB
  go_enter Try.func64, Try.ntmps64
  go_wp2_with fail
  go_loopw [19] (fun v wr => ∃ (k nk : Nat) (q : List Int) (t : Int → Bool), k ≤ l.length ∧ v = .int .i64 k ∧ Hid (q.length = L) ∧ Hid (PlanR wr bp q) ∧ Hid (MB wr bt nk t) ∧ Hid (untr t N < d + 1) ∧ Hid (nk + untr t N ≤ nt + untr tr N) ∧ Hid (Two bp bt w wr) ∧ wr.cell? ⟨w.heap.size, 0, none⟩ = some (.slice (some ⟨rb, ro, none⟩) L cc) ∧ wr.cell? ⟨w.heap.size, 1, none⟩ = some (.slice ap N cp) ∧ Hid (RES = plcL V job (l.drop k) q t)) (fun v _ => l.length - (intOf v).toNat)
  case atStart => exact ⟨0, nt, pl, tr, Nat.zero_le _, rfl, hlen, hplB, hmB, hun, Lib.hid (Nat.le_refl _), hTB, p0, p1, hD0⟩
  case round =>
    obtain ⟨k, nk, q, t, hk, rfl, hq, HPl, HM, hut, hnk, HT, p0, p1, hR⟩ := hrel
    clear hwB cR hplB hmB hTB hD0
    by_cases hlt : k < l.length
    · obtain ⟨rfl, hlb, cl⟩ := hLc.out k hlt
      have cl := HT.out.cell cl (by omega) (by omega)
      obtain ⟨m, hm, hmN⟩ := hEn.out k hlt
      have hS := Lib.hid (hR.out.trans (hD.out k q t hlt))
      rw [hm] at hS cl
      have hS := Lib.hid hS.out
      clear hm hR hD hDE hEn hLc
      have hlk := HM.out.look (t := 84) underI underMB underB (zeroB _) m (wf64 (by omega) (by omega))
      have hz0 := block_lt p0
      have hz9 : bp < wr.heap.size := Nat.lt_of_lt_of_le hsp HT.out.size
      have hzt9 := HM.out.lt
      cases htm : t m with
      | true =>
        rw [htm] at hlk
        have hS := Lib.hid (hS.out.trans (if_pos htm))
        clear htm HV hKp
        go_wp2_with fail
        go_roundw
        case rel => exact ⟨k + 1, nk, q, t, by omega, by go_num, hq, HPl, HM, hut, hnk, HT, p0, p1, hS⟩
        case measure => simp [intOf]; omega
      | false =>
        rw [htm] at hlk
        have hS := Lib.hid (hS.out.trans (if_neg (by rw [htm]; decide)))
        have hset := untr_set htm N hmN
        have hmono := Lib.hid (Nat.le_trans (Nat.add_le_add_left (Nat.le_refl _) _) hnk.out)
        clear htm hmono
        have hut' := hut.out
        have hroom' := hroom.out
        have hnk' := hnk.out
        have hM := HM.out
        have HVk : Hid (∀ w3, wr.grownBy w3 (some bt) → MB w3 bt (nk + 1) (setAt t m true) → Calls Try.prog 76 #[.agg #[.slice (some ⟨rb, ro, none⟩) L cc, .slice ap N cp], .slice (some ⟨bp, 0, none⟩) L cap, .int .i64 m, .int .i64 fr, .map (some bt)] w3 fun e w' => PlE bp bt (nk + 1) N w3 (setAt t m true) (V m q (setAt t m true)) e w') :=
          Lib.hid fun w3 hg hm3 => HV.out w3 (nk + 1) m q (setAt t m true) (HT.out.trans (Two.grown hg)) hq.out (HPl.out.same (hg.block bp hz9 (fun e => hne (by cases e; rfl)))) hm3 (by omega) (by omega) hmN
        have hKk := Lib.hid (hKp.out m q (setAt t m true))
        have hnx : Hid (nk + 1 + untr (setAt t m true) N ≤ nt + untr tr N) := Lib.hid (by omega)
        have hux : Hid (untr (setAt t m true) N < d + 1) := Lib.hid (by omega)
        have hnk9 : nk < maxLen := by unfold maxLen; omega
        clear HV hKp hset hut' hroom' hnk' hut hnk
        generalize hst0 : setAt t m true = t0 at *
        have hst0 := Lib.hid hst0
        generalize V m q t0 = r at *
        obtain ⟨b, q1, t1⟩ := r
        have hq1 : Hid (q1.length = L) := Lib.hid (hKk.out.1.trans hq.out)
        have hu1 : Hid (untr t1 N < d + 1) := Lib.hid (Nat.lt_of_le_of_lt hKk.out.2 hux.out)
        clear hKk hux
        go_wp2_with (first | (at_mapUpdate; refine wpList_putB _ rfl _ _ _ 84 rfl 3 4 _ _ _ rfl hM underI underMB underB _ _ rfl rfl (wf64 (by omega) (by omega)) hnk9 ?_; intro w3 hM3 hg3; have hT3 : Two bp bt wr w3 := Two.grown hg3; have p0 := hT3.cell p0 hs1 hs2; have p1 := hT3.cell p1 hs1 hs2))
        have hM3 : MB w3 bt (nk + 1) t0 := by rw [← hst0.out]; exact hM3
        have hHV := Lib.hid (HVk.out w3 hg3 hM3)
        clear HVk hM hlk hg3 hM3 cl
        cases b with
        | true =>
          have hS : Hid (RES = (true, q1.set job m, t1)) := Lib.hid (hS.out.trans (if_pos rfl))
          go_wp2_with fail
          refine hHV.out.mono ?_
          rintro e w5 ⟨rfl, h5, ⟨n5, h6, h7⟩, h8⟩
          have hjq : job < q1.length := by rw [hq1.out]; exact hj
          have cj := h5.1 job hjq
          have fj := h5.2 job hjq
          have h5s := Lib.hid (h5.store hjq (m : Int))
          have h6s := Lib.hid (h6.setCell (a := ⟨bp, job, none⟩) (fun e => hne e.symm) (.int .i64 m))
          have h8s := Lib.hid (((HT.out.trans hT3).trans h8).trans (Two.set w5 job (.int .i64 m)))
          have h7 := Lib.hid h7
          clear h5 h6 h8 hHV hjq
          go_wp2_with fail
          go_ret
          refine plE_of hS.out ⟨rfl, h5s.out, ⟨n5, h6s.out, Nat.le_trans h7.out hnx.out⟩, h8s.out⟩
        | false =>
          have hS : Hid (RES = plcL V job (l.drop (k + 1)) q1 t1) := Lib.hid (hS.out.trans (if_neg (by simp)))
          go_wp2_with fail
          refine hHV.out.mono ?_
          rintro e w5 ⟨rfl, h5, ⟨n5, h6, h7⟩, h8⟩
          have H5 := Lib.hid h5
          have H6 := Lib.hid h6
          have H7 := Lib.hid (Nat.le_trans h7 hnx.out)
          have H8 := Lib.hid ((HT.out.trans hT3).trans h8)
          have p0 := h8.cell p0 hs1 hs2
          have p1 := h8.cell p1 hs1 hs2
          clear h5 h6 h7 h8 hHV HPl HM HT
          go_wp2_with fail
          go_roundw
          case rel => exact ⟨k + 1, n5, q1, t1, by omega, by go_num, hq1, H5, H6, hu1, H7, H8, p0, p1, hS⟩
          case measure => simp [intOf]; omega
    · obtain rfl : k = l.length := by omega
      have hS := Lib.hid (hR.out.trans (hDE.out q t))
      clear hR hD hDE hEn hLc HV hKp
      go_wp2_with fail
      go_ret
      refine plE_of hS.out ⟨rfl, HPl.out, ⟨nk, HM.out, hnk.out⟩, HT.out⟩
/-- place does so at every depth. -/
theorem place_all : ∀ d, PlaceC d
  | 0 => fun w0 w C P ac ap cc cp L N bp bt nt cap pl tr fr job h _ _ => absurd h.un (Nat.not_lt_zero _)
  | d + 1 => place_v (place_all d)
end Go.Proofs.Ytghlhjiomebmhaa

namespace Go.Proofs.Ytghlhjiomebmhaa
set_option linter.unusedVariables false
set_option linter.unusedSimpArgs false
open Go.RowKit

/-- Ints at the head of a block that is not the one to avoid. -/
def RowAt (lo : Nat) (w : World) (a : Option Addr) (l : List Int) (av : Option Nat) : Prop :=
  ∃ blk, (l ≠ [] → a = some ⟨blk, 0, none⟩ ∧ av ≠ some blk ∧ lo ≤ blk) ∧ ∀ i, i < l.length → w.cell? ⟨blk, i, none⟩ = some (.int .i64 (gi l i))
theorem RowAt.grown {lo : Nat} {w w' : World} {a : Option Addr} {l : List Int} {av : Option Nat} (h : RowAt lo w a l av) (hg : w.grownBy w' av) : RowAt lo w' a l av := by
  obtain ⟨blk, h1, h2⟩ := h
  refine ⟨blk, h1, fun i hi => ?_⟩
  have hc := h2 i hi
  have hne := (h1 (pos_ne (n := 0) hi)).2.1
  exact (World.cell?_of_block (w := w) (w' := w') (a := ⟨blk, i, none⟩) (hg.block blk (block_lt hc) (fun e => hne e.symm))).trans hc
theorem RowAt.below {lo : Nat} {w w' : World} {a : Option Addr} {l : List Int} {av : Option Nat} (h : RowAt lo w a l av) (hb : Below w.heap.size w w') : RowAt lo w' a l av := by
  obtain ⟨blk, h1, h2⟩ := h
  exact ⟨blk, h1, fun i hi => cell_below (h2 i hi) hb⟩
theorem RowAt.lower {lo lo' : Nat} {w : World} {a : Option Addr} {l : List Int} {av : Option Nat} (h : RowAt lo w a l av) (hl : lo' ≤ lo) : RowAt lo' w a l av := by
  obtain ⟨blk, h1, h2⟩ := h
  exact ⟨blk, fun hne => ⟨(h1 hne).1, (h1 hne).2.1, Nat.le_trans hl (h1 hne).2.2⟩, h2⟩
/-- A list of rows of ints that grows: each row lies in a block of its own. -/
def GrowR (base : Nat) (w : World) (v : Value) (k : Nat) (rows : Nat → List Int) : Prop :=
  ∃ (ad : Nat → Option Addr) (cp : Nat → Nat), w.ownsRow base 26 1 v k ((List.range k).map fun i => .slice (ad i) (rows i).length (cp i)) ∧ ∀ i, i < k → RowAt base w (ad i) (rows i) v.ownBlock ∧ (rows i).length ≤ cp i
theorem GrowR.below {base : Nat} {w w' : World} {v : Value} {k : Nat} {rows : Nat → List Int} (h : GrowR base w v k rows) (hb : Below w.heap.size w w') : GrowR base w' v k rows := by
  obtain ⟨ad, cp, h1, h2⟩ := h
  exact ⟨ad, cp, owns_belowI h1 hb, fun i hi => ⟨(h2 i hi).1.below hb, (h2 i hi).2⟩⟩
theorem GrowR.alloc {base : Nat} {w : World} {v : Value} {k : Nat} {rows : Nat → List Int} (h : GrowR base w v k rows) (o : Obj) : GrowR base (w.alloc o) v k rows := h.below ((Below.refl _ _).alloc (Nat.le_refl _) _)
theorem GrowR.nil (base : Nat) (w : World) (rows : Nat → List Int) : GrowR base w (.slice none 0 0) 0 rows :=
  ⟨fun _ => none, fun _ => 0, ⟨rfl, .inl ⟨rfl, rfl⟩⟩, fun i hi => absurd hi (Nat.not_lt_zero _)⟩
/-- A row of one's own, made at a later time than all that is to be avoided. -/
theorem rowAt_own {w : World} {base c : Nat} {a : Option Addr} {zs : List Int} (h : w.ownsRow base 3 1 (.slice a zs.length c) zs.length (clI zs)) {av : Option Nat} (hav : ∀ z, av = some z → z < base) : RowAt base w a zs av ∧ zs.length ≤ c := by
  rcases h.2 with ⟨h1, h2⟩ | ⟨g2, c2, cur, h1, hg, _, hcap, _⟩
  · obtain rfl : zs = [] := List.eq_nil_of_length_eq_zero h2
    exact ⟨⟨0, fun hne => absurd rfl hne, fun i hi => absurd hi (Nat.not_lt_zero _)⟩, Nat.zero_le _⟩
  · obtain ⟨rfl, rfl⟩ : a = some ⟨g2, 0, none⟩ ∧ c = c2 := by simpa using h1
    refine ⟨⟨g2, fun _ => ⟨rfl, fun e => ?_, hg⟩, fun i hi => ?_⟩, ?_⟩
    · have := hav g2 e
      omega
    · rw [World.ownsRow.cellAt h i (by omega)]; exact clI_get zs hi
    · exact hcap
theorem RowAt.turn {lo : Nat} {w w' : World} {a : Option Addr} {l : List Int} {av : Option Nat} (h : RowAt lo w a l av) (hg : w.grownBy w' av) {g : Nat} (hor : av = some g ∨ g = w.heap.size) : RowAt lo w' a l (some g) := by
  rcases hor with e | e
  · have := h.grown hg
    rw [e] at this
    exact this
  · have h9 := h.grown hg
    obtain ⟨blk, q1, q2⟩ := h
    by_cases hl : l = []
    · exact ⟨blk, fun hne => absurd hl hne, fun i hi => by subst hl; exact absurd hi (Nat.not_lt_zero _)⟩
    · have hp : 0 < l.length := List.length_pos_iff.2 hl
      have hb := block_lt (q2 0 hp)
      refine ⟨blk, fun hne => ⟨(q1 hne).1, fun e2 => ?_, (q1 hne).2.2⟩, fun i hi => ?_⟩
      · cases e2; omega
      · exact (World.cell?_of_block (w := w) (w' := w') (a := ⟨blk, i, none⟩) (hg.block blk hb (fun e2 => (q1 hl).2.1 e2.symm))).trans (q2 i hi)
theorem GrowR.app {base : Nat} {w w' : World} {av : Option Nat} {k : Nat} {rows : Nat → List Int} {ad : Nat → Option Addr} {cp : Nat → Nat} (h2 : ∀ i, i < k → RowAt base w (ad i) (rows i) av ∧ (rows i).length ≤ cp i) {a1 : Option Addr} {c1 g c : Nat}
    (hr : RowAt base w a1 (rows k) av ∧ (rows k).length ≤ c1)
    (ho : w'.ownsRow base 26 1 (.slice (some ⟨g, 0, none⟩) (k + 1) c) (k + 1) (((List.range k).map fun i => Value.slice (ad i) (rows i).length (cp i)) ++ [.slice a1 (rows k).length c1])) (hg : w.grownBy w' av) (hor : av = some g ∨ g = w.heap.size) :
    GrowR base w' (.slice (some ⟨g, 0, none⟩) (k + 1) c) (k + 1) rows := by
  refine ⟨fun i => if i = k then a1 else ad i, fun i => if i = k then c1 else cp i, ?_, fun i hi => ?_⟩
  · rw [List.range_succ, List.map_append]
    have e1 : ((List.range k).map fun i => Value.slice (if i = k then a1 else ad i) (rows i).length (if i = k then c1 else cp i)) = (List.range k).map fun i => Value.slice (ad i) (rows i).length (cp i) :=
      List.map_congr_left fun i hi => by have := List.mem_range.1 hi; rw [if_neg (by omega), if_neg (by omega)]
    rw [e1]
    simpa using ho
  · by_cases e : i = k
    · subst e; simp only [if_pos]; exact ⟨hr.1.turn hg hor, hr.2⟩
    · simp only [if_neg e]; exact ⟨(h2 i (by omega)).1.turn hg hor, (h2 i (by omega)).2⟩
/-- append of one row to a list of rows of one's own. -/
theorem app_row {w : World} {ops : Array Oper} {rest : List Oper} {o : Oper} {a : Act} {Q : Exit → Act → World → Prop} (hgd : o.guard = none) (s x : Operand)
    (ho : o.op = .call { callee := .builtin .append, args := #[s, x], argTypes := #[62, 62] })
    (base n : Nat) (v : Value) (rows : Nat → List Int) (hs : a.eval s = v) (hown : GrowR base w v n rows)
    (B : Nat) (a1 : Option Addr) (c1 : Nat) (hx : a.eval x = .slice (some ⟨B, 0, none⟩) 1 1) (hc : w.cell? ⟨B, 0, none⟩ = some (.slice a1 (rows n).length c1)) (hr : RowAt base w a1 (rows n) v.ownBlock ∧ (rows n).length ≤ c1) (hn : n ≤ 1000000) (hbase : base ≤ w.heap.size)
    (h : ∀ g c' w', GrowR base w' (.slice (some ⟨g, 0, none⟩) (n + 1) c') (n + 1) rows → Below base w w' → wpList Try.prog ops Q rest (a.put o.dst (.slice (some ⟨g, 0, none⟩) (n + 1) c')) w') : wpList Try.prog ops Q (o :: rest) a w := by
  obtain ⟨i0, hi, hz0, hz1, hz2⟩ := info_parts infoRow
  obtain ⟨ad, cp, hown, hrows⟩ := hown
  refine wpList_append_lies w hgd s x 62 ho base 26 i0 _ 1 24 undRows hi hz0 hz1 hz2 rfl (by decide) v n _ hs hown ⟨B, 0, none⟩ 1 1 [.slice a1 (rows n).length c1] hx rfl ?_ ?_ (by decide) (by unfold maxLen; omega) (by omega) hbase _ rfl ?_
  · intro j u hj
    match j, hj with
    | 0, hj => simp at hj; subst hj; exact hc
  · intro u hu; simp at hu; subst hu; rfl
  · intro g c' w' h1 h2 h3 h4
    exact h g c' w' (GrowR.app hrows hr h1 h2 h3) ((Below.refl base w).grown h2 hbase (fun k hk => owns_blockI hown hk))
theorem GrowR.rows {base : Nat} {w w2 : World} {a : Option Addr} {n c : Nat} {rows : Nat → List Int} (h : GrowR base w (.slice a n c) n rows) (C : List (List Int)) (hC : C.length = n) (hg : ∀ i, i < n → gr C i = rows i) (hn : n ≤ 1000000)
    (h64 : ∀ i, i < n → (rows i).length ≤ 1000000 ∧ ∀ j, j < (rows i).length → I64 (gi (rows i) j)) (hs : ∀ k, base ≤ k → k < w.heap.size → w2.heap[k]? = w.heap[k]?) : RowsS w2 a C := by
  obtain ⟨ad, cp, h1, h2⟩ := h
  refine ⟨by omega, ?_⟩
  rcases h1.2 with ⟨e1, e2⟩ | ⟨g2, c2, cur, e1, hg2, hb, _⟩
  · refine ⟨0, 0, ad, cp, fun hne => absurd (List.eq_nil_of_length_eq_zero (by omega)) hne, fun i hi => by omega⟩
  · obtain ⟨rfl, rfl⟩ : a = some ⟨g2, 0, none⟩ ∧ c = c2 := by simpa using e1
    have hgz : g2 < w.heap.size := (Array.getElem?_eq_some_iff.1 hb).1
    refine ⟨g2, 0, ad, cp, fun _ => rfl, fun i hi => ?_⟩
    have hin : i < n := by omega
    rw [hg i hin]
    refine ⟨?_, ⟨by have := (h64 i hin).1; omega, (h64 i hin).2, ?_⟩, (h2 i hin).2⟩
    · rw [Nat.zero_add, World.cell?_of_block (w := w) (w' := w2) (a := ⟨g2, i, none⟩) (hs g2 hg2 hgz), World.ownsRow.cellAt h1 i (by omega)]
      simp [hin]
    · obtain ⟨blk, q1, q2⟩ := (h2 i hin).1
      refine ⟨blk, 0, fun hne => (q1 hne).1, fun j hj => ?_⟩
      have hc := q2 j hj
      rw [Nat.zero_add, World.cell?_of_block (w := w) (w' := w2) (a := ⟨blk, j, none⟩) (hs blk (q1 (pos_ne (n := 0) hj)).2.2 (block_lt hc))]
      exact hc
theorem ints_own2 {w w2 : World} {base c : Nat} {a : Option Addr} {zs : List Int} {T : TypeId} (h : w.ownsRow base T 1 (.slice a zs.length c) zs.length (clI zs)) (hn : zs.length ≤ 9223372036854775807) (hf : ∀ j, j < zs.length → I64 (gi zs j)) (hs : ∀ k, base ≤ k → k < w.heap.size → w2.heap[k]? = w.heap[k]?) : IntsS w2 a zs := by
  refine ⟨hn, hf, ?_⟩
  rcases h.2 with ⟨h1, h2⟩ | ⟨g2, c2, cur, h1, hg, hb, _⟩
  · exact ⟨0, 0, (fun hne => absurd (List.eq_nil_of_length_eq_zero h2) hne), fun i hi => by omega⟩
  · obtain ⟨rfl, rfl⟩ : a = some ⟨g2, 0, none⟩ ∧ c = c2 := by simpa using h1
    have hgz : g2 < w.heap.size := (Array.getElem?_eq_some_iff.1 hb).1
    refine ⟨g2, 0, fun _ => rfl, fun i hi => ?_⟩
    rw [Nat.zero_add, World.cell?_of_block (w := w) (w' := w2) (a := ⟨g2, i, none⟩) (hs g2 hg hgz), World.ownsRow.cellAt h i (by omega)]; exact clI_get zs hi
theorem GrowR.owned {base : Nat} {w : World} {a : Option Addr} {n c : Nat} {rows : Nat → List Int} (h : GrowR base w (.slice a n c) n rows) : ∀ z, (Value.slice a n c).ownBlock = some z → z < w.heap.size := by
  obtain ⟨ad, cp, h1, h2⟩ := h
  exact fun z hz => (World.ownsRow.lt h1 z hz).2
end Go.Proofs.Ytghlhjiomebmhaa
