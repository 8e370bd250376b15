/-
  Rows of signs as values: cells, append; Holds at such a row. By an AI agent.; Parts between cuts, and stretches metre by metre: one list. By an AI agent.; Between the cuts of a course nothing changes: what holds, and what must hold, as stretches. By an AI agent.; The law RuleSilence. By an AI agent.
-/
import Derived.Test.YtiagflackfkmnaaGreatMgRuleSilence4
import Derived.Test.YtiagflackfkmnaaGreatMgRuleSilence7
import Derived.Test.YtiagflackfkmnaaGreatMgRuleSilence9
import Derived.Test.YtiagflackfkmnaaGreatMgRuleSilence11
import Derived.Test.YtiagflackfkmnaaGreatMgRuleSilence12
import Derived.Deep.RegionHeld3
import Derived.Deep.DeepCutAuto
import Derived.BigQuiet
import Derived.BigRegion
import Derived.StillTailTactics
import Derived.Deep.AppendLies

namespace Go.Proofs.YtiagflackfkmnaaGreat
set_option linter.unusedVariables false
set_option linter.unusedSimpArgs false
open Go.RowKit

/-- The cells of a block that is known. -/
theorem heapc {w : World} {B : Nat} {cs : Array Value} {T : TypeId} {fr : Nat × Nat} (h : w.heap[B]? = some (.cells cs T fr)) {i : Nat} {v : Value} (hi : cs[i]? = some v) : w.cell? ⟨B, i, none⟩ = some v := (cell_of_row w B i cs T fr h).trans hi
theorem heap_lt {w : World} {B : Nat} {o : Obj} (h : w.heap[B]? = some o) : B < w.heap.size := by
  apply Nat.lt_of_not_le
  intro hle
  rw [Array.getElem?_eq_none hle] at h
  cases h
theorem heap_below {w w' : World} {B : Nat} {o : Obj} (h : w.heap[B]? = some o) (hb : Below w.heap.size w w') : w'.heap[B]? = some o := (hb.block B (heap_lt h)).trans h
/-- A block of another type is no row's. -/
theorem own_type {w : World} {B : Nat} {T T2 : TypeId} {K : Nat} {av : Option Addr} {n c m b : Nat} {xs : List Value} {cs : Array Value} {fr : Nat × Nat} (h : w.ownsRow B T K (.slice av n c) m xs) (hb : w.heap[b]? = some (.cells cs T2 fr)) (hT : T ≠ T2) : ∀ x, av = some x → x.block ≠ b := by
  intro x hx e
  rcases h.2 with ⟨h1, _⟩ | ⟨g2, c3, cur, h1, h2, h3, _⟩
  · injection h1 with h1 _ _
    rw [hx] at h1; cases h1
  · injection h1 with h1 _ _
    rw [hx] at h1
    injection h1 with h1
    subst h1
    rw [show g2 = b from e] at h3
    rw [hb] at h3
    injection h3 with h3
    injection h3 with _ h3 _
    exact hT h3.symm
theorem heap_kept {w w' : World} {av : Option Addr} {g B : Nat} {o : Obj} (hk : KpB w w' av g) (h : w.heap[B]? = some o) (hne : ∀ x, av = some x → x.block ≠ B) : w'.heap[B]? = some o ∧ g ≠ B :=
  ⟨(hk B (heap_lt h) hne).1.trans h, (hk B (heap_lt h) hne).2⟩
/-- Values of signs whose covers lie in memory. -/
def PrsL (w : World) (S : List RE) : Prop := ∀ x, x ∈ S → PairsS w x.2.1 x.1.cv
theorem PrsL.below {w w' : World} {S : List RE} (h : PrsL w S) (hb : Below w.heap.size w w') : PrsL w' S := fun x hx => (h x hx).below hb
theorem PrsL.snoc {w : World} {S : List RE} {X : RE} (h : PrsL w S) (hX : PairsS w X.2.1 X.1.cv) : PrsL w (S ++ [X]) := fun x hx => by
  rw [List.mem_append, List.mem_singleton] at hx
  rcases hx with hx | hx
  · exact h x hx
  · rw [hx]; exact hX
theorem row_sgn {w : World} {base c : Nat} {a : Option Addr} {S : List RE} (h : w.ownsRow base 34 9 (.slice a S.length c) S.length (clR S)) (hn : S.length ≤ 9223372036854775807) (hp : PrsL w S) : SgnS w a (S.map (·.1)) :=
  ownR h hn fun i hi => hp _ (by rw [getElem!_pos S i hi]; exact List.getElem_mem hi)
theorem clR_snoc (S : List RE) (X : RE) : clR (S ++ [X]) = clR S ++ encS X := by rw [clR_app]; simp [clR]
theorem map_snoc (S : List RE) (X : RE) : (S ++ [X]).map (·.1) = S.map (·.1) ++ [X.1] := by rw [List.map_append]; rfl
/-- Holds at a row of one's own. -/
theorem holds_row (L : Int) (a : Option Addr) (js : List Int) (ca : Nat) (av : Option Addr) (S : List RE) (cv : Nat) (l : List Sgn) (h dir tp m V : Int) (hV : hldV L js l h dir tp m = V) (hs : sgnsB L js l = true) (hl : S.map (·.1) = l) (h0 : btw h 0 10000000 = true) (h1 : dirB dir = true) (h2 : topB tp = true) (h3 : btw m 0 (L - 1) = true) (base : Nat) (w : World) (hI : IntsS w a js)
    (hR : w.ownsRow base 34 9 (.slice av S.length cv) S.length (clR S)) (hp : PrsL w S) : Calls Tryz.prog 21 #[.agg #[.int .i64 L, .slice a js.length ca], .slice av S.length cv, .int .i64 h, .int .i64 dir, .int .i64 tp, .int .i64 m] w (NumA V 0 w) := by
  subst hl
  have hn := ((sgns_iff L js _).1 hs).2.1
  rw [List.length_map] at hn
  have := Holds_good L a js ca av (S.map (·.1)) cv h dir tp m ((lst_iff _ _ _).2 hs) h0 h1 h2 h3 w hI (row_sgn hR (by omega) hp)
  rw [List.length_map, hV] at this
  exact this
end Go.Proofs.YtiagflackfkmnaaGreat

namespace Go.Proofs.YtiagflackfkmnaaGreat
set_option linter.unusedVariables false
set_option linter.unusedSimpArgs false
open Go.RowKit

theorem cmp_spec (d : Array Int) (hs : ∀ i j, i ≤ j → j < d.size → d[i]! ≤ d[j]!) : ∀ m, m ≤ d.size → (Lib.compactUpTo d m).Pairwise (· < ·) ∧ ∀ x, x ∈ Lib.compactUpTo d m ↔ ∃ j, j < m ∧ d[j]! = x
  | 0, _ => ⟨by simp [Lib.compactUpTo], fun x => by simp [Lib.compactUpTo]⟩
  | m + 1, hm => by
    obtain ⟨h1, h2⟩ := cmp_spec d hs m (by omega)
    rw [Lib.compactUpTo_succ]
    by_cases hk : Lib.keeps d m = true
    · rw [if_pos hk]
      refine ⟨List.pairwise_append.2 ⟨h1, by simp, fun x hx y hy => ?_⟩, fun x => ?_⟩
      · obtain ⟨j, hj, e⟩ := (h2 x).1 hx
        rw [List.mem_singleton.1 hy, ← e]
        by_cases h0 : m = 0
        · omega
        · have h3 := hs j (m - 1) (by omega) (by omega)
          have h4 := hs (m - 1) m (by omega) (by omega)
          have h5 : d[m]! ≠ d[m - 1]! := by
            intro e2
            unfold Lib.keeps at hk
            simp [h0, e2] at hk
          omega
      · rw [List.mem_append, h2, List.mem_singleton]
        constructor
        · rintro (⟨j, hj, e⟩ | e)
          · exact ⟨j, by omega, e⟩
          · exact ⟨m, by omega, e.symm⟩
        · rintro ⟨j, hj, e⟩
          by_cases hjm : j = m
          · right; rw [← e, hjm]
          · left; exact ⟨j, by omega, e⟩
    · rw [if_neg hk, List.append_nil]
      refine ⟨h1, fun x => ?_⟩
      rw [h2]
      have h0 : m ≠ 0 := by rintro rfl; exact hk (by simp [Lib.keeps])
      have h5 : d[m]! = d[m - 1]! := by
        by_cases e : d[m]! = d[m - 1]!
        · exact e
        · exact absurd (by unfold Lib.keeps; simp [h0, e]) hk
      constructor
      · rintro ⟨j, hj, e⟩; exact ⟨j, by omega, e⟩
      · rintro ⟨j, hj, e⟩
        by_cases hjm : j = m
        · exact ⟨m - 1, by omega, by rw [← e, hjm, h5]⟩
        · exact ⟨j, by omega, e⟩
theorem srt_pw (zs : List Int) : (srt zs).Pairwise (· ≤ ·) := by
  have := List.pairwise_mergeSort (le := fun x y : Int => decide (x ≤ y)) (fun a b c h1 h2 => by simp only [decide_eq_true_eq] at *; omega) (fun a b => by simp only [Bool.or_eq_true, decide_eq_true_eq]; omega) zs
  exact this.imp (fun h => by simpa using h)
theorem cmp_sorted {zs : List Int} (h : zs.Pairwise (· ≤ ·)) : (Lib.compact zs).Pairwise (· < ·) ∧ ∀ x, x ∈ Lib.compact zs ↔ x ∈ zs := by
  have hs : ∀ i j, i ≤ j → j < zs.toArray.size → zs.toArray[i]! ≤ zs.toArray[j]! := fun i j hij hj => by
    have hj' : j < zs.length := by simpa using hj
    rw [List.getElem!_toArray, List.getElem!_toArray, getElem!_pos zs i (by omega), getElem!_pos zs j hj']
    by_cases e : i = j
    · subst e; exact Int.le_refl _
    · exact (List.pairwise_iff_getElem.1 h) i j (by omega) hj' (by omega)
  obtain ⟨h1, h2⟩ := cmp_spec zs.toArray hs zs.length (by simp)
  refine ⟨h1, fun x => ?_⟩
  show x ∈ Lib.compactUpTo _ _ ↔ _
  rw [h2]
  constructor
  · rintro ⟨j, hj, e⟩
    rw [List.getElem!_toArray, getElem!_pos zs j hj] at e
    rw [← e]; exact List.getElem_mem hj
  · intro hx
    obtain ⟨j, hj, e⟩ := List.getElem_of_mem hx
    exact ⟨j, hj, by rw [List.getElem!_toArray, getElem!_pos zs j hj]; exact e⟩
theorem asc_pw (cuts : List Int) : (ascL cuts).Pairwise (· < ·) := (cmp_sorted (srt_pw cuts)).1
theorem asc_iff (cuts : List Int) (x : Int) : x ∈ ascL cuts ↔ x ∈ cuts := ((cmp_sorted (srt_pw cuts)).2 x).trans (srt_perm cuts).mem_iff

section
variable {V : Type} [DecidableEq V] [Inhabited V]
def gtV (l : List (Int × Int × V)) (i : Nat) : Int × Int × V := l.getD i (0, 0, default)
def prt1V (acc : List (Int × Int × V)) (x y : Int) (v : V) : List (Int × Int × V) := if 0 < acc.length ∧ (gtV acc (acc.length - 1)).2.2 = v then acc.set (acc.length - 1) ((gtV acc (acc.length - 1)).1, y, v) else acc ++ [(x, y, v)]
def prtV (z : List Int) (f : Int → V) : Nat → List (Int × Int × V)
  | 0 => []
  | k + 1 => if k = 0 then [] else prt1V (prtV z f k) (gi z (k - 1)) (gi z k) (f (gi z (k - 1)))
/-- One metre more, where some values are of no account. -/
def st1V (sk : V → Bool) (acc : List (Int × Int × V)) (m : Int) (v : V) : List (Int × Int × V) :=
  if sk v = true then acc else if 0 < acc.length ∧ (gtV acc (acc.length - 1)).2.1 = m ∧ (gtV acc (acc.length - 1)).2.2 = v then acc.set (acc.length - 1) ((gtV acc (acc.length - 1)).1, m + 1, v) else acc ++ [(m, m + 1, v)]
def strV (sk : V → Bool) (f : Int → V) : Nat → List (Int × Int × V)
  | 0 => []
  | n + 1 => st1V sk (strV sk f n) n (f n)
omit [DecidableEq V] in
theorem gtV_snoc (pre : List (Int × Int × V)) (q : Int × Int × V) : gtV (pre ++ [q]) ((pre ++ [q]).length - 1) = q := by
  unfold gtV; simp
theorem set_snoc {α : Type} (pre : List α) (q r : α) : (pre ++ [q]).set ((pre ++ [q]).length - 1) r = pre ++ [r] := by
  rw [List.length_append, List.length_singleton, Nat.add_sub_cancel, List.set_append_right _ _ (Nat.le_refl _)]
  simp
theorem prt1V_snoc (pre : List (Int × Int × V)) (x y0 a b : Int) (u v : V) : prt1V (pre ++ [(x, y0, u)]) a b v = if u = v then pre ++ [(x, b, v)] else pre ++ [(x, y0, u)] ++ [(a, b, v)] := by
  unfold prt1V
  rw [gtV_snoc, set_snoc]
  by_cases h : u = v
  · rw [if_pos ⟨by simp, h⟩, if_pos h]
  · rw [if_neg (fun hh => h hh.2), if_neg h]
theorem strV_skip {sk : V → Bool} {f : Int → V} {v : V} (hv : sk v = true) (a : Nat) : ∀ n, (∀ i : Nat, a ≤ i → i < a + n → f i = v) → strV sk f (a + n) = strV sk f a
  | 0, _ => rfl
  | n + 1, h => by
    rw [← Nat.add_assoc, strV, h (a + n) (by omega) (by omega)]
    unfold st1V
    rw [if_pos hv]
    exact strV_skip hv a n (fun i h1 h2 => h i h1 (by omega))
theorem strV_more {sk : V → Bool} {f : Int → V} {v : V} (hv : sk v = false) (a : Nat) (pre : List (Int × Int × V)) (x : Int) (hS : strV sk f a = pre ++ [(x, (a : Int), v)]) : ∀ n, (∀ i : Nat, a ≤ i → i < a + n → f i = v) → strV sk f (a + n) = pre ++ [(x, ((a + n : Nat) : Int), v)]
  | 0, _ => hS
  | n + 1, h => by
    have ih := strV_more hv a pre x hS n (fun i h1 h2 => h i h1 (by omega))
    rw [← Nat.add_assoc, strV, h (a + n) (by omega) (by omega), ih]
    unfold st1V
    rw [if_neg (by rw [hv]; simp), gtV_snoc, set_snoc, if_pos ⟨by simp, rfl, rfl⟩]
    simp
theorem strV_new {sk : V → Bool} {f : Int → V} {v : V} (hv : sk v = false) (a : Nat) (hS : ¬ (0 < (strV sk f a).length ∧ (gtV (strV sk f a) ((strV sk f a).length - 1)).2.1 = a ∧ (gtV (strV sk f a) ((strV sk f a).length - 1)).2.2 = v)) (n : Nat) (h : ∀ i : Nat, a ≤ i → i < a + (n + 1) → f i = v) : strV sk f (a + (n + 1)) = strV sk f a ++ [((a : Int), ((a + (n + 1) : Nat) : Int), v)] := by
  have h1 : strV sk f (a + 1) = strV sk f a ++ [((a : Int), ((a + 1 : Nat) : Int), v)] := by
    rw [strV, h a (Nat.le_refl _) (by omega)]
    unfold st1V
    rw [if_neg (by rw [hv]; simp), if_neg hS]
    simp
  have h2 := strV_more hv (a + 1) (strV sk f a) (a : Int) h1 n (fun i h1 h2 => h i (by omega) (by omega))
  rw [show a + 1 + n = a + (n + 1) by omega] at h2
  exact h2
def fltV (sk : V → Bool) (acc : List (Int × Int × V)) : List (Int × Int × V) := acc.filter fun p => !(sk p.2.2)
omit [DecidableEq V] [Inhabited V] in
theorem fltV_snoc (sk : V → Bool) (pre : List (Int × Int × V)) (q : Int × Int × V) : fltV sk (pre ++ [q]) = fltV sk pre ++ if sk q.2.2 = true then [] else [q] := by
  unfold fltV
  rw [List.filter_append]
  cases h : sk q.2.2 <;> simp [List.filter_cons, h]
/-- What the two ways agree on, up to a cut. -/
def InvV (sk : V → Bool) (f : Int → V) (acc : List (Int × Int × V)) (a : Nat) : Prop :=
  strV sk f a = fltV sk acc ∧ ((acc = [] ∧ a = 0) ∨ ∃ pre x u, acc = pre ++ [(x, (a : Int), u)] ∧ x < (a : Int) ∧ ∀ p, p ∈ pre → p.2.1 ≤ x)
theorem invV_step {sk : V → Bool} {f : Int → V} {acc : List (Int × Int × V)} {a b : Nat} (hab : a < b) (hc : ∀ i : Nat, a ≤ i → i < b → f i = f a) (h : InvV sk f acc a) : InvV sk f (prt1V acc a b (f a)) b := by
  obtain ⟨n, rfl⟩ : ∃ n, b = a + (n + 1) := ⟨b - a - 1, by omega⟩
  generalize f a = v at *
  obtain ⟨h1, h2⟩ := h
  rcases h2 with ⟨rfl, rfl⟩ | ⟨pre, x, u, rfl, hx, hp⟩
  · have e : prt1V ([] : List (Int × Int × V)) ((0 : Nat) : Int) ((0 + (n + 1) : Nat) : Int) v = [] ++ [(((0 : Nat) : Int), ((0 + (n + 1) : Nat) : Int), v)] := by unfold prt1V; simp
    rw [e]
    refine ⟨?_, .inr ⟨[], _, v, rfl, by omega, fun p hp => by cases hp⟩⟩
    rw [fltV_snoc]
    cases hv : sk v with
    | true => rw [strV_skip hv 0 (n + 1) hc, if_pos rfl]; rfl
    | false => rw [strV_new hv 0 (fun hh => absurd hh.1 (by simp [strV])) n hc, if_neg (by simp)]; rfl
  · rw [prt1V_snoc]
    rw [fltV_snoc] at h1
    by_cases huv : u = v
    · subst huv
      rw [if_pos rfl]
      refine ⟨?_, .inr ⟨pre, x, u, rfl, by omega, hp⟩⟩
      rw [fltV_snoc]
      cases hv : sk u with
      | true =>
        rw [if_pos hv] at h1
        rw [strV_skip hv a (n + 1) hc, h1, if_pos rfl]
      | false =>
        rw [if_neg (by rw [hv]; simp)] at h1
        rw [strV_more hv a _ x h1 (n + 1) hc, if_neg (by simp)]
    · rw [if_neg huv]
      refine ⟨?_, .inr ⟨pre ++ [(x, (a : Int), u)], a, v, rfl, by omega, fun p hpm => ?_⟩⟩
      · rw [fltV_snoc, fltV_snoc, ← h1]
        cases hv : sk v with
        | true => rw [strV_skip hv a (n + 1) hc, if_pos rfl, List.append_nil]
        | false =>
          rw [strV_new hv a ?_ n hc, if_neg (by simp)]
          rw [h1]
          rintro ⟨g1, g2, g3⟩
          cases hu : sk u with
          | false =>
            rw [hu, if_neg (by simp), gtV_snoc] at g3
            exact huv g3
          | true =>
            rw [hu, if_pos rfl, List.append_nil] at g1 g2
            have hm : gtV (fltV sk pre) ((fltV sk pre).length - 1) ∈ fltV sk pre := by
              unfold gtV
              rw [List.getD_eq_getElem?_getD, List.getElem?_eq_getElem (by omega)]
              exact List.getElem_mem _
            have := hp _ (List.mem_filter.1 hm).1
            omega
      · rw [List.mem_append, List.mem_singleton] at hpm
        rcases hpm with hpm | rfl
        · have := hp p hpm; omega
        · exact Int.le_refl _
theorem parts_str {sk : V → Bool} {f : Int → V} {z : List Int} (hz : z.Pairwise (· < ·)) (h0 : 0 < z.length → gi z 0 = 0) (hc : ∀ k, k + 1 < z.length → ∀ i : Int, gi z k ≤ i → i < gi z (k + 1) → f i = f (gi z k)) : ∀ k, k < z.length → InvV sk f (prtV z f (k + 1)) (gi z k).toNat
  | 0, hk => by
    rw [h0 hk]
    refine ⟨?_, .inl ⟨by rw [prtV, if_pos rfl], rfl⟩⟩
    rw [prtV, if_pos rfl]; rfl
  | k + 1, hk => by
    have ih := parts_str (sk := sk) hz h0 hc k (by omega)
    have hlt : ∀ i j, i < j → j < z.length → gi z i < gi z j := fun i j hij hj => by
      unfold gi
      rw [List.getD_eq_getElem?_getD, List.getD_eq_getElem?_getD, List.getElem?_eq_getElem (by omega), List.getElem?_eq_getElem hj]
      exact (List.pairwise_iff_getElem.1 hz) i j (by omega) hj hij
    have hpos : 0 ≤ gi z k := by
      by_cases e : k = 0
      · subst e; rw [h0 (by omega)]; exact Int.le_refl _
      · have := hlt 0 k (by omega) (by omega); rw [h0 (by omega)] at this; omega
    have hlk := hlt k (k + 1) (by omega) hk
    have e1 : ((gi z k).toNat : Int) = gi z k := Int.toNat_of_nonneg hpos
    have e2 : ((gi z (k + 1)).toNat : Int) = gi z (k + 1) := Int.toNat_of_nonneg (by omega)
    have st := invV_step (b := (gi z (k + 1)).toNat) (by omega) (fun i h1 h2 => by
      rw [e1]; exact hc k hk i (by omega) (by omega)) ih
    rw [e1, e2] at st
    rw [prtV, if_neg (by omega)]
    exact st
/-- Parts between cuts, those of no account left out, are the stretches metre by metre. -/
theorem parts_all {sk : V → Bool} {f : Int → V} {z : List Int} {L : Int} (hz : z.Pairwise (· < ·)) (h0 : gi z 0 = 0) (hL : gi z (z.length - 1) = L) (hne : 0 < z.length) (hc : ∀ k, k + 1 < z.length → ∀ i : Int, gi z k ≤ i → i < gi z (k + 1) → f i = f (gi z k)) : fltV sk (prtV z f z.length) = strV sk f L.toNat := by
  have := (parts_str (sk := sk) hz (fun _ => h0) hc (z.length - 1) (by omega)).1
  rw [hL, show z.length - 1 + 1 = z.length by omega] at this
  exact this.symm
end
theorem prtK_V (z : List Int) (f : Int → Int) : ∀ k, prtK z f k = prtV z f k
  | 0 => rfl
  | k + 1 => by
    rw [prtK, prtV, prtK_V z f k]; rfl
end Go.Proofs.YtiagflackfkmnaaGreat

namespace Go.Proofs.YtiagflackfkmnaaGreat
set_option linter.unusedVariables false
set_option linter.unusedSimpArgs false
open Go.RowKit

theorem gi_mem {z : List Int} {k : Nat} (h : k < z.length) : gi z k ∈ z := by rw [gi_at z h]; exact List.getElem_mem h
theorem asc_lt (cuts : List Int) {i j : Nat} (hij : i < j) (hj : j < (ascL cuts).length) : gi (ascL cuts) i < gi (ascL cuts) j := by
  rw [gi_at _ (by omega), gi_at _ hj]
  exact (List.pairwise_iff_getElem.1 (asc_pw cuts)) i j (by omega) hj hij
theorem asc_ends {cuts : List Int} {A B : Int} (hA : A ∈ cuts) (hB : B ∈ cuts) (h : ∀ c, c ∈ cuts → A ≤ c ∧ c ≤ B) : gi (ascL cuts) 0 = A ∧ gi (ascL cuts) ((ascL cuts).length - 1) = B ∧ 0 < (ascL cuts).length := by
  have hp : 0 < (ascL cuts).length := asc_pos (by rintro rfl; cases hA)
  have hm : ∀ k, k < (ascL cuts).length → A ≤ gi (ascL cuts) k ∧ gi (ascL cuts) k ≤ B := fun k hk => h _ ((asc_iff cuts _).1 (gi_mem hk))
  obtain ⟨i, hi, ei⟩ := List.getElem_of_mem ((asc_iff cuts A).2 hA)
  obtain ⟨j, hj, ej⟩ := List.getElem_of_mem ((asc_iff cuts B).2 hB)
  rw [← gi_at _ hi] at ei
  rw [← gi_at _ hj] at ej
  refine ⟨?_, ?_, hp⟩
  · by_cases e : i = 0
    · rw [← ei, e]
    · have := asc_lt cuts (i := 0) (j := i) (by omega) hi
      have := (hm 0 hp).1
      omega
  · by_cases e : j = (ascL cuts).length - 1
    · rw [← ej, e]
    · have := asc_lt cuts (i := j) (j := (ascL cuts).length - 1) (by omega) (by omega)
      have := (hm ((ascL cuts).length - 1) (by omega)).2
      omega
/-- A function that hangs on how a place lies to the cuts alone. -/
theorem asc_const {V : Type} {cuts : List Int} {f : Int → V} (h : ∀ a m : Int, (∀ c, c ∈ cuts → (a < c ↔ m < c)) → f m = f a) (k : Nat) (hk : k + 1 < (ascL cuts).length) (i : Int) (h1 : gi (ascL cuts) k ≤ i) (h2 : i < gi (ascL cuts) (k + 1)) : f i = f (gi (ascL cuts) k) := by
  refine h _ _ fun c hc => ?_
  obtain ⟨j, hj, e⟩ := List.getElem_of_mem ((asc_iff cuts c).2 hc)
  rw [← gi_at _ hj] at e
  by_cases hjk : j ≤ k
  · have : gi (ascL cuts) j ≤ gi (ascL cuts) k := by
      by_cases e2 : j = k
      · rw [e2]; exact Int.le_refl _
      · exact Int.le_of_lt (asc_lt cuts (by omega) (by omega))
    omega
  · have : gi (ascL cuts) (k + 1) ≤ gi (ascL cuts) j := by
      by_cases e2 : j = k + 1
      · rw [e2]; exact Int.le_refl _
      · exact Int.le_of_lt (asc_lt cuts (by omega) hj)
    omega
theorem strV_congr {V : Type} [DecidableEq V] [Inhabited V] {sk : V → Bool} {f g : Int → V} : ∀ n : Nat, (∀ i : Nat, i < n → f i = g i) → strV sk f n = strV sk g n
  | 0, _ => rfl
  | n + 1, h => by rw [strV, strV, strV_congr n (fun i hi => h i (by omega)), h n (by omega)]
/-- The stretches of a function along a line. -/
def strS (L : Int) (f : Int → Int) : List Tri := strV (fun v : Int => v == 0) f L.toNat
theorem strS_congr {L : Int} {f g : Int → Int} (h : ∀ m : Int, 0 ≤ m → m < L → f m = g m) : strS L f = strS L g := strV_congr _ fun i hi => h i (by omega) (by omega)
theorem held_cuts {cuts : List Int} {L : Int} {f : Int → Int} (hL : 0 ≤ L) (hA : 0 ∈ cuts) (hB : L ∈ cuts) (hb : ∀ c, c ∈ cuts → 0 ≤ c ∧ c ≤ L) (h : ∀ a m : Int, (∀ c, c ∈ cuts → (a < c ↔ m < c)) → f m = f a) : heldL (prtK (ascL cuts) f (ascL cuts).length) = strS L f := by
  obtain ⟨e1, e2, e3⟩ := asc_ends hA hB hb
  have := parts_all (sk := fun v : Int => v == 0) (asc_pw cuts) e1 e2 e3 (fun k hk i h1 h2 => asc_const (f := f) h k hk i h1 h2)
  rw [← prtK_V] at this
  exact this
theorem line_jct {L : Int} {js : List Int} (h : lineB L js = true) : ∀ j, j < js.length → 0 < gi js j ∧ gi js j < L := by
  unfold lineB at h
  simp only [Bool.and_eq_true, decide_eq_true_eq, Bool.not_eq_true'] at h
  have hj : ∀ j, j < js.length → jOk L js j = true := fun j hj => by simpa using (anyK_iff _).1 h.2 j hj
  intro j hjl
  have h0 := jOk_pos (L := L) j (fun i hi => hj i (by omega))
  have h3 := hj j hjl
  unfold jOk at h3
  simp only [Bool.and_eq_true, decide_eq_true_eq] at h3
  omega
theorem lst_line {L : Int} {js : List Int} {l : List Sgn} {q : List Edc} (h : lstE L js l q = 0) : lineB L js = true ∧ 1 ≤ L ∧ L ≤ 100000 := by
  unfold lstE at h
  split at h
  · cases h
  next h1 =>
  have h1 : lineB L js = true := by simpa using h1
  have g := h1
  unfold lineB at g
  simp only [Bool.and_eq_true, decide_eq_true_eq] at g
  have := btw_ge g.1.1
  exact ⟨h1, this.1, this.2⟩
theorem dst_in {L dir c : Int} (hd : dirB dir = true) (h1 : 0 ≤ c) (h2 : c ≤ L) : 0 ≤ dstK L dir c ∧ dstK L dir c ≤ L := by
  unfold dstK; split <;> omega
theorem dst_dst {L dir c : Int} : dstK L dir (dstK L dir c) = c := by
  unfold dstK; split <;> omega
theorem opn_in {L : Int} {js : List Int} {dir d : Int} (hd : d ≤ L) (hJ : ∀ j, j < js.length → dstK L dir (gi js j) ≤ L) : ∀ n, n ≤ js.length → d ≤ opnK L js dir d n ∧ opnK L js dir d n ≤ L
  | 0, _ => ⟨hd, Int.le_refl _⟩
  | n + 1, hn => by
    have ih := opn_in hd hJ n (by omega)
    have hj := hJ n (by omega)
    rw [opnK]
    split
    · rw [Int.min_def]; split <;> omega
    · exact ih
/-- The signs of good lists. -/
theorem sgn_in {L : Int} {js : List Int} {l : List Sgn} (h : sgnsB L js l = true) (j : Nat) (hj : j < l.length) : sgnB L (gs l j) = true := by
  unfold sgnsB at h
  simp only [Bool.and_eq_true, decide_eq_true_eq] at h
  have hA := h.1.2
  unfold allB at hA
  simp only [Bool.not_eq_true'] at hA
  simpa using (anyK_iff _).1 hA j hj
theorem sgn_c {L : Int} {s : Sgn} (h : sgnB L s = true) : 0 ≤ s.c ∧ s.c ≤ L := by
  unfold sgnB at h
  simp only [Bool.and_eq_true, decide_eq_true_eq] at h
  have := btw_ge h.1.1.1.1.1.2
  omega
theorem row_in {L : Int} {js : List Int} {dir h : Int} {l : List Sgn} {q : List Edc} {row : List Pst} (hV : lstE L js l q = 0) (hd : dirB dir = true) (H : RowL L js dir h l row) (i : Nat) (hi : i < row.length) : (0 ≤ (gq row i).d ∧ (gq row i).d ≤ L) ∧ 0 ≤ (gq row i).u ∧ (gq row i).u ≤ L := by
  obtain ⟨hl, hL1, hL2⟩ := lst_line hV
  have hsb := lst_sgns hV
  have hval := (lst_good hV).2.2.1
  obtain ⟨e1, ⟨j, hj, e2, -⟩, e3, -⟩ := row_elem H i hi
  have hc := sgn_c (sgn_in hsb j hj)
  rw [← e2] at hc
  have h1 := dst_in hd hc.1 hc.2
  have h2 := opn_in (dir := dir) h1.2 (fun j hj => by
    have := line_jct hl j hj
    exact (dst_in hd (by omega) (by omega)).2) js.length (Nat.le_refl _)
  rw [e1, e3]
  refine ⟨h1, ?_⟩
  split
  next hp =>
    obtain ⟨-, ⟨j2, hj2, e4, -⟩, -, -⟩ := row_elem H (i + 1) hp.1
    have := (hval j2 hj2).2
    rw [← e4] at this
    rw [Int.min_def]
    split <;> omega
  · omega
theorem cutsK_mem {L dir : Int} {row : List Pst} : ∀ n, n ≤ row.length → ∀ c, c ∈ cutsK L dir row n ↔ c = 0 ∨ c = L ∨ ∃ i, i < n ∧ (c = dstK L dir (gq row i).d ∨ c = dstK L dir (gq row i).u)
  | 0, _, c => by simp [cutsK]
  | n + 1, hn, c => by
    rw [cutsK, List.mem_append, cutsK_mem n (by omega) c]
    simp only [List.mem_cons, List.not_mem_nil, or_false]
    constructor
    · rintro ((h | h | ⟨i, hi, h⟩) | h)
      · exact .inl h
      · exact .inr (.inl h)
      · exact .inr (.inr ⟨i, by omega, h⟩)
      · exact .inr (.inr ⟨n, by omega, h⟩)
    · rintro (h | h | ⟨i, hi, h⟩)
      · exact .inl (.inl h)
      · exact .inl (.inr (.inl h))
      · by_cases e : i = n
        · rw [e] at h; exact .inr h
        · exact .inl (.inr (.inr ⟨i, by omega, h⟩))
theorem hld_same {t k k' : Int} : ∀ (row : List Pst), (∀ p, p ∈ row → (k < p.d ↔ k' < p.d) ∧ (p.u ≤ k ↔ p.u ≤ k')) → ∀ v, hldL t k row v = hldL t k' row v
  | [], _, v => rfl
  | p :: r, h, v => by
    obtain ⟨h1, h2⟩ := h p (by simp)
    rw [hldL, hldL]
    have e : stpK p t k v = stpK p t k' v := by
      unfold stpK
      rw [ifc h2]
    rw [ifc h1, e, hld_same r (fun x hx => h x (by simp [hx]))]
theorem beg_lt {L dir m c : Int} (hd : dirB dir = true) : begK L dir m < c ↔ (if dir = 1 then m < dstK L dir c else ¬ m < dstK L dir c) := by
  unfold begK dstK
  by_cases h : dir = 1
  · rw [if_pos h, if_pos h, if_pos h]
  · rw [if_neg h, if_neg h, if_neg h]; omega
/-- What Held says of a row that the program makes: the stretches of what holds on each metre. -/
def heldS (L : Int) (js : List Int) (l : List Sgn) (h dir t : Int) : List Tri := strS L (fun m => hldV L js l h dir t m)
theorem told_const {L : Int} {js : List Int} {dir h t : Int} {l : List Sgn} {q : List Edc} {row : List Pst} (hV : lstE L js l q = 0) (hd : dirB dir = true) (H : RowL L js dir h l row) (a m : Int) (hc : ∀ c, c ∈ cutsK L dir row row.length → (a < c ↔ m < c)) : hldL t (begK L dir m) row 0 = hldL t (begK L dir a) row 0 := by
  refine hld_same row (fun p hp => ?_) 0
  obtain ⟨i, hi, e⟩ := List.getElem_of_mem hp
  have eg : gq row i = p := by unfold gq; simp [hi, e]
  have m1 := hc _ ((cutsK_mem row.length (Nat.le_refl _) _).2 (.inr (.inr ⟨i, hi, .inl rfl⟩)))
  have m2 := hc _ ((cutsK_mem row.length (Nat.le_refl _) _).2 (.inr (.inr ⟨i, hi, .inr rfl⟩)))
  rw [eg] at m1 m2
  have n1 := beg_lt (L := L) (m := m) (c := p.d) hd
  have n2 := beg_lt (L := L) (m := a) (c := p.d) hd
  have n3 := beg_lt (L := L) (m := m) (c := p.u) hd
  have n4 := beg_lt (L := L) (m := a) (c := p.u) hd
  constructor
  · rw [n1, n2]
    split
    · exact m1.symm
    · rw [m1]
  · have : (begK L dir m < p.u ↔ begK L dir a < p.u) := by
      rw [n3, n4]
      split
      · exact m2.symm
      · rw [m2]
    omega
theorem told_cuts {L : Int} {js : List Int} {dir h : Int} {l : List Sgn} {q : List Edc} {row : List Pst} (hV : lstE L js l q = 0) (hd : dirB dir = true) (H : RowL L js dir h l row) : 0 ∈ cutsK L dir row row.length ∧ L ∈ cutsK L dir row row.length ∧ ∀ c, c ∈ cutsK L dir row row.length → 0 ≤ c ∧ c ≤ L := by
  obtain ⟨hl, hL1, hL2⟩ := lst_line hV
  refine ⟨(cutsK_mem row.length (Nat.le_refl _) _).2 (.inl rfl), (cutsK_mem row.length (Nat.le_refl _) _).2 (.inr (.inl rfl)), fun c hc => ?_⟩
  rcases (cutsK_mem row.length (Nat.le_refl _) c).1 hc with rfl | rfl | ⟨i, hi, rfl | rfl⟩
  · omega
  · omega
  · have := row_in hV hd H i hi
    exact dst_in hd this.1.1 this.1.2
  · have := row_in hV hd H i hi
    exact dst_in hd this.2.1 this.2.2
theorem hldM_eq {L : Int} {js : List Int} {dir h t : Int} {l : List Sgn} {q : List Edc} {row : List Pst} (hV : lstE L js l q = 0) (hd : dirB dir = true) (ht : t ≠ 0) (H : RowL L js dir h l row) : hldM L dir t row = heldS L js l h dir t := by
  obtain ⟨hl, hL1, hL2⟩ := lst_line hV
  obtain ⟨c1, c2, c3⟩ := told_cuts hV hd H
  obtain ⟨hn1, hn2⟩ := sgn_nums (lst_sgns hV)
  unfold hldM heldS
  rw [held_cuts (L := L) (by omega) c1 c2 c3 (fun a m hc => told_const hV hd H a m hc)]
  exact strS_congr fun m h1 h2 => hld_ins hn2 ht (beg_bd (by omega) hL2 h1 h2).2 H
/-- The cuts of edicts. -/
def cutsW (L : Int) (q : List Edc) : Nat → List Int
  | 0 => [0, L]
  | k + 1 => cutsW L q k ++ [(ge q k).fr, (ge q k).tt]
theorem cutsW_len (L : Int) (q : List Edc) : ∀ k, (cutsW L q k).length = 2 + 2 * k
  | 0 => rfl
  | k + 1 => by rw [cutsW, List.length_append, cutsW_len L q k]; simp; omega
theorem cutsW_mem {L : Int} {q : List Edc} : ∀ n, n ≤ q.length → ∀ c, c ∈ cutsW L q n ↔ c = 0 ∨ c = L ∨ ∃ i, i < n ∧ (c = (ge q i).fr ∨ c = (ge q i).tt)
  | 0, _, c => by simp [cutsW]
  | n + 1, hn, c => by
    rw [cutsW, List.mem_append, cutsW_mem n (by omega) c]
    simp only [List.mem_cons, List.not_mem_nil, or_false]
    constructor
    · rintro ((h | h | ⟨i, hi, h⟩) | h)
      · exact .inl h
      · exact .inr (.inl h)
      · exact .inr (.inr ⟨i, by omega, h⟩)
      · exact .inr (.inr ⟨n, by omega, h⟩)
    · rintro (h | h | ⟨i, hi, h⟩)
      · exact .inl (.inl h)
      · exact .inl (.inr (.inl h))
      · by_cases e : i = n
        · rw [e] at h; exact .inr h
        · exact .inl (.inr (.inr ⟨i, by omega, h⟩))
theorem edc_in {L : Int} {js : List Int} {q : List Edc} (h : edcsB L js q = true) (j : Nat) (hj : j < q.length) : edcB L (ge q j) = true := by
  unfold edcsB at h
  simp only [Bool.and_eq_true, decide_eq_true_eq] at h
  have hA := h.1.2
  unfold allE at hA
  simp only [Bool.not_eq_true'] at hA
  simpa using (anyK_iff _).1 hA j hj
theorem edc_bd {L : Int} {x : Edc} (h : edcB L x = true) : 0 ≤ x.fr ∧ x.fr < x.tt ∧ x.tt ≤ L := by
  unfold edcB at h
  simp only [Bool.and_eq_true, decide_eq_true_eq] at h
  omega
theorem mustK_same {q : List Edc} {h t d m m' : Int} : ∀ n, n ≤ q.length → (∀ i, i < n → ((ge q i).fr ≤ m ↔ (ge q i).fr ≤ m') ∧ (m < (ge q i).tt ↔ m' < (ge q i).tt)) → mustK q h t d m n = mustK q h t d m' n
  | 0, _, _ => rfl
  | n + 1, hn, hh => by
    rw [mustK, mustK, mustK_same n (by omega) (fun i hi => hh i (by omega))]
    obtain ⟨h1, h2⟩ := hh n (by omega)
    have : edB (ge q n) h t d m = edB (ge q n) h t d m' := by
      unfold edB
      rw [show decide ((ge q n).fr ≤ m) = decide ((ge q n).fr ≤ m') from decide_eq_decide.2 h1, show decide (m < (ge q n).tt) = decide (m' < (ge q n).tt) from decide_eq_decide.2 h2]
    rw [this]
def wantS (L : Int) (q : List Edc) (h dir t : Int) : List Tri := strS L (fun m => mustV q h t dir m)
theorem want_const {L : Int} {q : List Edc} {h t d : Int} (a m : Int) (hc : ∀ c, c ∈ cutsW L q q.length → (a < c ↔ m < c)) : mustV q h t d m = mustV q h t d a := by
  unfold mustV
  rw [mustK_same q.length (Nat.le_refl _) (fun i hi => ?_)]
  have m1 := hc _ ((cutsW_mem q.length (Nat.le_refl _) _).2 (.inr (.inr ⟨i, hi, .inl rfl⟩)))
  have m2 := hc _ ((cutsW_mem q.length (Nat.le_refl _) _).2 (.inr (.inr ⟨i, hi, .inr rfl⟩)))
  constructor <;> omega
theorem want_cuts {L : Int} {js : List Int} {l : List Sgn} {q : List Edc} (hV : lstE L js l q = 0) : 0 ∈ cutsW L q q.length ∧ L ∈ cutsW L q q.length ∧ ∀ c, c ∈ cutsW L q q.length → 0 ≤ c ∧ c ≤ L := by
  obtain ⟨hl, hL1, hL2⟩ := lst_line hV
  refine ⟨(cutsW_mem q.length (Nat.le_refl _) _).2 (.inl rfl), (cutsW_mem q.length (Nat.le_refl _) _).2 (.inr (.inl rfl)), fun c hc => ?_⟩
  rcases (cutsW_mem q.length (Nat.le_refl _) c).1 hc with rfl | rfl | ⟨i, hi, rfl | rfl⟩
  · omega
  · omega
  · have := edc_bd (edc_in (lst_edcs hV) i hi); omega
  · have := edc_bd (edc_in (lst_edcs hV) i hi); omega
theorem wantM_eq {L : Int} {js : List Int} {l : List Sgn} {q : List Edc} {h dir t : Int} (hV : lstE L js l q = 0) : heldL (prtK (ascL (cutsW L q q.length)) (fun m => mustV q h t dir m) (ascL (cutsW L q q.length)).length) = wantS L q h dir t := by
  obtain ⟨hl, hL1, hL2⟩ := lst_line hV
  obtain ⟨c1, c2, c3⟩ := want_cuts hV
  exact held_cuts (L := L) (by omega) c1 c2 c3 (fun a m hc => want_const a m hc)
end Go.Proofs.YtiagflackfkmnaaGreat

namespace Go.Proofs.YtiagflackfkmnaaGreat
set_option linter.unusedVariables false
set_option linter.unusedSimpArgs false
open Go.RowKit

/-- Values of signs: their covers are the list's, or that which silences the sign z. -/
def CvrL (w : World) (p : Prop) (bz : Nat) (s : Sgn) (S : List RE) : Prop := ∀ x, x ∈ S → PairsS w x.2.1 x.1.cv ∨ (p ∧ x.2.1 = some ⟨bz, 0, none⟩ ∧ x.1.cv = [(s.up, s.dn)])
theorem cvr_prs {w w' : World} {p : Prop} {bz : Nat} {s : Sgn} {S : List RE} (h : CvrL w p bz s S) (hb : Below w.heap.size w w') (hz : p → w'.heap[bz]? = some (.cells #[.int .i64 s.up, .int .i64 s.dn] 71 (0, 0))) (hs : timeB s.up s.dn = true) : PrsL w' S := fun x hx => by
  rcases h x hx with h9 | ⟨hp, h1, h2⟩
  · exact h9.below hb
  · rw [h1, h2]
    have hz := hz hp
    unfold timeB at hs
    simp only [Bool.and_eq_true, decide_eq_true_eq] at hs
    refine ⟨by simp, fun i hi => ?_, bz, 0, fun _ => rfl, fun i hi => ?_⟩
    · obtain rfl : i = 0 := by simpa using hi
      unfold I64 gp
      simp only [List.getD_cons_zero]
      omega
    · obtain rfl : i = 0 := by simpa using hi
      exact ⟨heapc hz (i := 0) rfl, heapc hz (i := 1) rfl⟩
set_option linter.unnecessarySimpa false
set_option maxRecDepth 100000 in
set_option maxHeartbeats 4000000 in
theorem ruleSilence_any (L : Int) (a : Option Addr) (js : List Int) (ca : Nat) (aa : Option Addr) (l : List Sgn) (cl : Nat) (ae : Option Addr) (q : List Edc) (cq : Nat) (q0 q1 q2 q3 : Int) (w : World) (hI : IntsS w a js) (hA : SgnS w aa l) (hE : EdS w ae q) (wh : Int) (hw0 : 0 ≤ wh) (hw1 : wh ≤ 255) : Calls Tryz.prog 10 #[.agg #[.int .i64 L, .slice a js.length ca, .slice aa l.length cl, .slice ae q.length cq, .int .i64 q0, .int .i64 q1, .int .i64 q2, .int .i64 q3], .int .u8 wh] w fun e w' => e = .returned (.bool true) ∧ Below w.heap.size w w' := by
  have HH := Lib.hid (fun W (hW : Below w.heap.size w W) => right_r L a js ca aa l cl ae q cq q0 q1 q2 q3 W (hI.below hW) (hA.below hW) (hE.below hW))
  have HI := Lib.hid hI
  have HSp := Lib.hid (fun (x : Sgn) (ad : Option Addr) (cp : Nat) W (hP : PairsS W ad x.cv) => refSpeaks_r x ad cp q0 W hP)
  have HP0 : PrsL w [] := fun x hx => by cases hx
  have HA := Lib.hid hA
  obtain ⟨hlen, blk, off, ad, cp, hadr, hc⟩ := hA
  have HC := Lib.hid hc
  have HL : Hid (0 < l.length → aa = some ⟨blk, off, none⟩) := Lib.hid fun h => hadr (List.ne_nil_of_length_pos h)
  have HCP := Lib.hid (fun k (hk : k < l.length) => (hc k hk).2.2)
  obtain ⟨n0, hi, hz0, hz1, hz2⟩ := info_parts infoSg
  clear hI hE hadr hc
  go_enter Tryz.func10, Tryz.ntmps10
  go_wp2_with fail
  obtain ⟨wB, hwB⟩ : ∃ wB, w.alloc (.cells #[.int .i64 L, .slice a js.length ca, .slice aa l.length cl, .slice ae q.length cq, .int .i64 q0, .int .i64 q1, .int .i64 q2, .int .i64 q3] 28) = wB := ⟨_, rfl⟩
  have hb : Below w.heap.size w wB := by rw [← hwB]; exact (Below.refl _ _).alloc (Nat.le_refl _) _
  have p0 : wB.cell? ⟨w.heap.size, 0, none⟩ = some (.int .i64 L) := by rw [← hwB]; simp [go_sem]
  have p1 : wB.cell? ⟨w.heap.size, 1, none⟩ = some (.slice a js.length ca) := by rw [← hwB]; simp [go_sem]
  have p2 : wB.cell? ⟨w.heap.size, 2, none⟩ = some (.slice aa l.length cl) := by rw [← hwB]; simp [go_sem]
  have p3 : wB.cell? ⟨w.heap.size, 3, none⟩ = some (.slice ae q.length cq) := by rw [← hwB]; simp [go_sem]
  have p4 : wB.cell? ⟨w.heap.size, 4, none⟩ = some (.int .i64 q0) := by rw [← hwB]; simp [go_sem]
  have p5 : wB.cell? ⟨w.heap.size, 5, none⟩ = some (.int .i64 q1) := by rw [← hwB]; simp [go_sem]
  have p6 : wB.cell? ⟨w.heap.size, 6, none⟩ = some (.int .i64 q2) := by rw [← hwB]; simp [go_sem]
  have p7 : wB.cell? ⟨w.heap.size, 7, none⟩ = some (.int .i64 q3) := by rw [← hwB]; simp [go_sem]
  rw [hwB]
  clear hwB
  refine (HH.out _ hb).mono ?_
  rintro e wX ⟨bv, hRt, rfl, hb1⟩
  replace p0 := cell_below p0 hb1
  replace p1 := cell_below p1 hb1
  replace p2 := cell_below p2 hb1
  replace p3 := cell_below p3 hb1
  replace p4 := cell_below p4 hb1
  replace p5 := cell_below p5 hb1
  replace p6 := cell_below p6 hb1
  replace p7 := cell_below p7 hb1
  have hbw := hb.trans (hb1.mono hb.size)
  clear HH hb1
  cases bv with
  | false =>
    clear HI HSp HC HL HCP HP0 HA hRt
    go_wp2_with (go_at_call 12; refine (first_any _).mono ?_; rintro e w9 ⟨rfl, hb9⟩)
    go_ret
    exact ⟨rfl, hbw.trans (hb9.mono hbw.size)⟩
  | true =>
    obtain ⟨hV, hL2, hq0, hq1, hq2⟩ := hRt rfl
    clear hRt
    have hz := block_lt p0
    have Z0 := Lib.hid p0
    have Z1 := Lib.hid p1
    have Z2 := Lib.hid p2
    have Z3 := Lib.hid p3
    have Z4 := Lib.hid p4
    have Z5 := Lib.hid p5
    have Z6 := Lib.hid p6
    have Z7 := Lib.hid p7
    have HBW := Lib.hid hbw
    clear hb hbw
    obtain ⟨-, hLa, -⟩ := lst_line hV
    obtain ⟨U, M, hU, hM, hM0, hM1, hwL, hwM, hMb⟩ := metre_u L q3 hLa hL2
    have hL0 : ¬ L = 0 := by omega
    by_cases h0 : l.length = 0
    · have g0 : ((l.length : Int) == 0) = true := by rw [h0]; rfl
      clear Z0 Z1 Z3 Z4 Z5 Z6 Z7
      go_wp2_with (go_at_call 12; refine (first_any _).mono ?_; rintro e w9 ⟨rfl, hb9⟩)
      go_ret
      exact ⟨rfl, HBW.out.trans (hb9.mono HBW.out.size)⟩
    · have g0 : ((l.length : Int) == 0) = false := beq_false_of_ne (by omega)
      have g9 : ¬ (l.length : Int) = 0 := by omega
      have hl9 : l.length ≤ 100 := ((sgns_iff L js l).1 (lst_sgns hV)).2.1
      obtain ⟨z, hz9, hzl⟩ : ∃ z : Nat, wh.tmod (l.length : Int) = z ∧ z < l.length := by
        have h1 := Int.tmod_nonneg (l.length : Int) hw0
        have h2 := Int.tmod_lt_of_pos wh (show (0 : Int) < (l.length : Int) by omega)
        exact ⟨(wh.tmod (l.length : Int)).toNat, by omega, by omega⟩
      have HSG := Lib.hid (lst_sgns hV)
      have HMB := Lib.hid hMb
      have HQ0 := Lib.hid hq0
      have HQ1 := Lib.hid hq1
      have HQ2 := Lib.hid hq2
      have HZL := Lib.hid hzl
      clear hV hL2 hq0 hq1 hq2 hLa hzl hM0 hM1 hMb h0
      go_wp2_with fail
      rw [hwM]
      clear hU hM hwL hwM hL0 g9 hz9 g0 p0 p1 p2 p3 p4 p5 p6 p7
      go_loopw [7, 8, 9, 10] (fun v7 v8 v9 i wr => ∃ (k : Nat) (a7 a8 a9 : Option Addr) (S7 S8 S9 : List RE) (c7 c8 c9 bz : Nat), k ≤ l.length ∧ i = .int .i64 k ∧ v7 = .slice a7 S7.length c7 ∧ v8 = .slice a8 S8.length c8 ∧ v9 = .slice a9 S9.length c9 ∧ Below wX.heap.size wX wr ∧ Hid (wr.ownsRow wX.heap.size 34 9 (.slice a7 S7.length c7) S7.length (clR S7)) ∧ Hid (wr.ownsRow wX.heap.size 34 9 (.slice a8 S8.length c8) S8.length (clR S8)) ∧ Hid (wr.ownsRow wX.heap.size 34 9 (.slice a9 S9.length c9) S9.length (clR S9)) ∧ Hid (apB a7 a8) ∧ Hid (apB a7 a9) ∧ Hid (apB a8 a9) ∧ Hid (S7.map (·.1) = spkL q0 l k) ∧ Hid (S8.map (·.1) = othL z l k) ∧ Hid (S9.map (·.1) = covL z l k) ∧ Hid (S7.length ≤ k ∧ S8.length ≤ k ∧ S9.length ≤ k) ∧ Hid (PrsL w S7) ∧ Hid (PrsL w S8) ∧ Hid (CvrL w (z < k) bz (gs l z) S9) ∧ Hid (z < k → wr.heap[bz]? = some (.cells #[.int .i64 (gs l z).up, .int .i64 (gs l z).dn] 71 (0, 0)))) (fun _ _ _ i _ => l.length - (intOf i).toNat)
      case atStart =>
        exact ⟨0, none, none, none, [], [], [], 0, 0, 0, 0, Nat.zero_le _, rfl, rfl, rfl, rfl, Below.refl _ _, Lib.hid (World.ownsRow_nil _ _ _ _), Lib.hid (World.ownsRow_nil _ _ _ _), Lib.hid (World.ownsRow_nil _ _ _ _), Lib.hid (apB_none _), Lib.hid (apB_none _), Lib.hid (apB_none _), Lib.hid rfl, Lib.hid rfl, Lib.hid rfl, Lib.hid ⟨Nat.le_refl _, Nat.le_refl _, Nat.le_refl _⟩, Lib.hid HP0, Lib.hid HP0, Lib.hid (fun x hx => by cases hx), Lib.hid (fun h => absurd h (Nat.not_lt_zero _))⟩
      case round =>
        obtain ⟨k, a7, a8, a9, S7, S8, S9, c7, c8, c9, bz, hk, rfl, rfl, rfl, rfl, hbr, H7, H8, H9, A78, A79, A89, M7, M8, M9, HN, P7, P8, P9, HZ⟩ := hrel
        have p2 := cell_below Z2.out hbr
        have p4 := cell_below Z4.out hbr
        by_cases hlt : k < l.length
        · obtain rfl := HL.out (by omega)
          have hbw := HBW.out.trans (hbr.mono HBW.out.size)
          obtain ⟨⟨b0, b1, b2, b3, b4, b5, b6, b7⟩, b8, hP⟩ := HC.out k hlt
          have hPk := Lib.hid (HCP.out k hlt)
          have b0 := cell_below b0 hbw
          have b1 := cell_below b1 hbw
          have b2 := cell_below b2 hbw
          have b3 := cell_below b3 hbw
          have b4 := cell_below b4 hbw
          have b5 := cell_below b5 hbw
          have b6 := cell_below b6 hbw
          have b7 := cell_below b7 hbw
          have b8 := cell_below b8 hbw
          have HS1 := Lib.hid (fun W (hW : Below w.heap.size w W) => HSp.out (gs l k) (ad k) (cp k) W (hP.below hW))
          have g1 : (k : Int) < (l.length : Int) := by omega
          have HGk := Lib.hid (show (gs l k, ad k, cp k).1 = gs l k from rfl)
          obtain ⟨adk, hadk⟩ : ∃ x, ad k = x := ⟨_, rfl⟩
          obtain ⟨cpk, hcpk⟩ : ∃ x, cp k = x := ⟨_, rfl⟩
          rw [hadk] at b8 HS1 hPk hP
          rw [hcpk] at b8 HS1
          obtain ⟨x, hx⟩ : ∃ x, gs l k = x := ⟨_, rfl⟩
          rw [hx] at b0 b1 b2 b3 b4 b5 b6 b7 b8 HS1 hPk
          have HGX := Lib.hid hx
          have hsp : Hid (spkB (gs l k) q0 = spkB x q0) := Lib.hid (by rw [hx])
          clear hx hadk hcpk hP HC HL HCP HSp HGk HA
          obtain ⟨sp, hs⟩ : ∃ b, spkB x q0 = b := ⟨_, rfl⟩
          rw [hs] at HS1
          have HSP := Lib.hid (hsp.out.trans hs)
          clear hs hsp hlt
          have hzr := block_lt p2
          go_upto_region 10 with (fail)
          obtain ⟨wA, hwA⟩ : ∃ wA, wr.alloc (.cells #[.int .i64 x.n, .int .i64 x.k, .int .i64 x.v, .int .i64 x.c, .int .i64 x.d, .int .i64 x.rk, .int .i64 x.up, .int .i64 x.dn, .slice adk x.cv.length cpk] 34) = wA := ⟨_, rfl⟩
          have HX : Hid (wA.heap[wr.heap.size]? = some (.cells #[.int .i64 x.n, .int .i64 x.k, .int .i64 x.v, .int .i64 x.c, .int .i64 x.d, .int .i64 x.rk, .int .i64 x.up, .int .i64 x.dn, .slice adk x.cv.length cpk] 34 (0, 0))) := Lib.hid (by rw [← hwA]; exact heap_alloc_new _ _)
          have hbA : Below wr.heap.size wr wA := by rw [← hwA]; exact (Below.refl _ _).alloc (Nat.le_refl _) _
          have hHb := Lib.hid hbA
          have X7 := Lib.hid (show apB (some ⟨wr.heap.size, 0, none⟩) a7 from fun u v hu hv e => by cases hu; have e : wr.heap.size = v.block := e; have := (own_lt H7.out v hv).2.2; omega)
          have X8 := Lib.hid (show apB (some ⟨wr.heap.size, 0, none⟩) a8 from fun u v hu hv e => by cases hu; have e : wr.heap.size = v.block := e; have := (own_lt H8.out v hv).2.2; omega)
          have X9 := Lib.hid (show apB (some ⟨wr.heap.size, 0, none⟩) a9 from fun u v hu hv e => by cases hu; have e : wr.heap.size = v.block := e; have := (own_lt H9.out v hv).2.2; omega)
          have HB := Lib.hid hbr
          have HR := Lib.hid hbr.size
          replace H7 := Lib.hid (owns_belowI H7.out hbA)
          replace H8 := Lib.hid (owns_belowI H8.out hbA)
          replace H9 := Lib.hid (owns_belowI H9.out hbA)
          replace HZ := Lib.hid (fun h => heap_below (HZ.out h) hbA)
          replace HB := Lib.hid (HB.out.trans (hbA.mono HB.out.size))
          replace p2 := cell_below p2 hbA
          replace p4 := cell_below p4 hbA
          rw [hwA]
          clear hwA hbA hbr b0 b1 b2 b3 b4 b5 b6 b7 b8
          have x0 := heapc HX.out (i := 0) (v := .int .i64 x.n) rfl
          have x1 := heapc HX.out (i := 1) (v := .int .i64 x.k) rfl
          have x2 := heapc HX.out (i := 2) (v := .int .i64 x.v) rfl
          have x3 := heapc HX.out (i := 3) (v := .int .i64 x.c) rfl
          have x4 := heapc HX.out (i := 4) (v := .int .i64 x.d) rfl
          have x5 := heapc HX.out (i := 5) (v := .int .i64 x.rk) rfl
          have x6 := heapc HX.out (i := 6) (v := .int .i64 x.up) rfl
          have x7 := heapc HX.out (i := 7) (v := .int .i64 x.dn) rfl
          have x8 := heapc HX.out (i := 8) (v := .slice adk x.cv.length cpk) rfl
          go_wp2_with fail
          refine (HS1.out _ (HBW.out.trans (HB.out.mono HBW.out.size))).mono ?_
          rintro e w1 ⟨rfl, hb1⟩
          replace H7 := Lib.hid (owns_belowI H7.out hb1)
          replace H8 := Lib.hid (owns_belowI H8.out hb1)
          replace H9 := Lib.hid (owns_belowI H9.out hb1)
          replace HX := Lib.hid (heap_below HX.out hb1)
          replace HZ := Lib.hid (fun h => heap_below (HZ.out h) hb1)
          replace HB := Lib.hid (HB.out.trans (hb1.mono HB.out.size))
          replace p2 := cell_below p2 hb1
          replace p4 := cell_below p4 hb1
          clear hb1 HS1 x0 x1 x2 x3 x4 x5 x6 x7 x8
          have x0 := heapc HX.out (i := 0) (v := .int .i64 x.n) rfl
          have x1 := heapc HX.out (i := 1) (v := .int .i64 x.k) rfl
          have x2 := heapc HX.out (i := 2) (v := .int .i64 x.v) rfl
          have x3 := heapc HX.out (i := 3) (v := .int .i64 x.c) rfl
          have x4 := heapc HX.out (i := 4) (v := .int .i64 x.d) rfl
          have x5 := heapc HX.out (i := 5) (v := .int .i64 x.rk) rfl
          have x6 := heapc HX.out (i := 6) (v := .int .i64 x.up) rfl
          have x7 := heapc HX.out (i := 7) (v := .int .i64 x.dn) rfl
          have x8 := heapc HX.out (i := 8) (v := .slice adk x.cv.length cpk) rfl
          cases sp with
          | true =>
            go_wp2_with (first | (at_builtin; go_loud (refine app_lit rfl _ _ 25 rfl wX.heap.size 34 n0 _ 9 88 Tryz.underlying25 hi hz0 hz1 hz2 rfl (by decide) (by decide) a7 S7.length c7 _ (by rfl) H7.out #[.int .i64 x.n, .int .i64 x.k, .int .i64 x.v, .int .i64 x.c, .int .i64 x.d, .int .i64 x.rk, .int .i64 x.up, .int .i64 x.dn, .slice adk x.cv.length cpk] rfl ?e1 (by rfl) HB.out.size (by have := HN.out; omega) ?e2)))
            case e1 => simp [Value.oneCell']
            case e2 =>
              intro g7 d7 w2 ho hk hl hbt
              clear x0 x1 x2 x3 x4 x5 x6 x7 x8
              obtain ⟨k8, m8⟩ := own_kept H8.out hk A78.out
              obtain ⟨k9, m9⟩ := own_kept H9.out hk A79.out
              obtain ⟨kx, mx⟩ := heap_kept hk HX.out (fun y hy e => X7.out _ y rfl hy e.symm)
              have kz := fun h => (heap_kept hk (HZ.out h) (own_type H7.out (HZ.out h) (by decide))).1
              have kb := hbt wX rfl HB.out
              have KP := Lib.hid hk
              replace H7 := Lib.hid ho
              replace H8 := Lib.hid k8
              replace A78 := Lib.hid (m8)
              replace H9 := Lib.hid k9
              replace A79 := Lib.hid (m9)
              replace HX := Lib.hid kx
              replace X7 := Lib.hid (show apB (some ⟨wr.heap.size, 0, none⟩) (some ⟨g7, 0, none⟩) from fun u v hu hv => by cases hu; cases hv; exact mx.symm)
              replace HZ := Lib.hid kz
              replace HB := Lib.hid kb
              have p2 := (kb.cell (p := ⟨w.heap.size, 2, none⟩) hz).trans Z2.out
              have p4 := (kb.cell (p := ⟨w.heap.size, 4, none⟩) hz).trans Z4.out
              have x0 := heapc HX.out (i := 0) (v := .int .i64 x.n) rfl
              have x1 := heapc HX.out (i := 1) (v := .int .i64 x.k) rfl
              have x2 := heapc HX.out (i := 2) (v := .int .i64 x.v) rfl
              have x3 := heapc HX.out (i := 3) (v := .int .i64 x.c) rfl
              have x4 := heapc HX.out (i := 4) (v := .int .i64 x.d) rfl
              have x5 := heapc HX.out (i := 5) (v := .int .i64 x.rk) rfl
              have x6 := heapc HX.out (i := 6) (v := .int .i64 x.up) rfl
              have x7 := heapc HX.out (i := 7) (v := .int .i64 x.dn) rfl
              have x8 := heapc HX.out (i := 8) (v := .slice adk x.cv.length cpk) rfl
              clear ho hk hbt kx mx kz kb KP k8 m8 k9 m9
              by_cases hkz : k = z
              · have gz : ((k : Int) == (z : Int)) = true := by rw [hkz]; simp
                have hBX := heap_lt HX.out
                have hfz : w2.frozen? ⟨wr.heap.size, 8, none⟩ = false := by simp [World.frozen?, HX.out]
                go_upto_region 15 with (fail)
                obtain ⟨wS, hwS⟩ : ∃ wS, (w2.setCell ⟨wr.heap.size, 8, none⟩ (.slice (some ⟨w2.heap.size, 0, none⟩) 1 1)).alloc (.cells #[.int .i64 x.up, .int .i64 x.dn] 71) = wS := ⟨_, rfl⟩
                have hsz : (w2.setCell ⟨wr.heap.size, 8, none⟩ (.slice (some ⟨w2.heap.size, 0, none⟩) 1 1)).heap.size = w2.heap.size := by simp
                have hkS : KpB w2 wS (some ⟨wr.heap.size, 0, none⟩) w2.heap.size := fun B hB hne => by
                  have h1 : wr.heap.size ≠ B := hne _ rfl
                  refine ⟨?_, by omega⟩
                  rw [← hwS, allocOld _ _ (by rw [hsz]; exact hB), heap_setCell_other _ _ _ _ (Ne.symm h1)]
                have hXs : wS.heap[wr.heap.size]? = some (.cells #[.int .i64 x.n, .int .i64 x.k, .int .i64 x.v, .int .i64 x.c, .int .i64 x.d, .int .i64 x.rk, .int .i64 x.up, .int .i64 x.dn, .slice (some ⟨w2.heap.size, 0, none⟩) 1 1] 34 (0, 0)) := by
                  have h9 := heap_setCell_same w2 wr.heap.size 8 _ 34 (.slice (some ⟨w2.heap.size, 0, none⟩) 1 1) HX.out
                  rw [← hwS, allocOld _ _ (by rw [hsz]; exact hBX)]
                  exact h9
                have hZs : wS.heap[w2.heap.size]? = some (.cells #[.int .i64 x.up, .int .i64 x.dn] 71 (0, 0)) := by
                  have h9 := heap_alloc_new (w2.setCell ⟨wr.heap.size, 8, none⟩ (.slice (some ⟨w2.heap.size, 0, none⟩) 1 1)) (.cells #[.int .i64 x.up, .int .i64 x.dn] 71)
                  rw [hsz] at h9
                  rw [← hwS]
                  exact h9
                have hBs : Below wX.heap.size wX wS := by
                  rw [← hwS]
                  exact (Below.setCell HB.out (by have := HR.out; exact this) _).alloc (by rw [hsz]; exact HB.out.size) _
                replace H7 := Lib.hid (own_kept H7.out hkS X7.out).1
                replace H8 := Lib.hid (own_kept H8.out hkS X8.out).1
                replace H9 := Lib.hid (own_kept H9.out hkS X9.out).1
                replace X9 := Lib.hid (show apB (some ⟨wr.heap.size, 0, none⟩) a9 from X9.out)
                replace HX := Lib.hid hXs
                replace HB := Lib.hid hBs
                replace HZ := Lib.hid (fun (_ : z < k + 1) => hZs)
                rw [hwS]
                clear hwS hkS hXs hfz hsz
                clear x0 x1 x2 x3 x4 x5 x6 x7 x8
                replace p2 := (hBs.cell (p := ⟨w.heap.size, 2, none⟩) hz).trans Z2.out
                replace p4 := (hBs.cell (p := ⟨w.heap.size, 4, none⟩) hz).trans Z4.out
                clear hBs hZs hBX
                have x0 := heapc HX.out (i := 0) (v := .int .i64 x.n) rfl
                have x1 := heapc HX.out (i := 1) (v := .int .i64 x.k) rfl
                have x2 := heapc HX.out (i := 2) (v := .int .i64 x.v) rfl
                have x3 := heapc HX.out (i := 3) (v := .int .i64 x.c) rfl
                have x4 := heapc HX.out (i := 4) (v := .int .i64 x.d) rfl
                have x5 := heapc HX.out (i := 5) (v := .int .i64 x.rk) rfl
                have x6 := heapc HX.out (i := 6) (v := .int .i64 x.up) rfl
                have x7 := heapc HX.out (i := 7) (v := .int .i64 x.dn) rfl
                have x8 := heapc HX.out (i := 8) (v := .slice (some ⟨w2.heap.size, 0, none⟩) 1 1) rfl
                go_wp2_with (first | (at_builtin; go_loud (refine app_lit rfl _ _ 25 rfl wX.heap.size 34 n0 _ 9 88 Tryz.underlying25 hi hz0 hz1 hz2 rfl (by decide) (by decide) a9 S9.length c9 _ (by rfl) H9.out #[.int .i64 x.n, .int .i64 x.k, .int .i64 x.v, .int .i64 x.c, .int .i64 x.d, .int .i64 x.rk, .int .i64 x.up, .int .i64 x.dn, .slice (some ⟨w2.heap.size, 0, none⟩) 1 1] rfl ?e1 (by rfl) HB.out.size (by have := HN.out; omega) ?e2)))
                case e1 => simp [Value.oneCell']
                case e2 =>
                  intro g9 d9 w4 ho hk hl hbt
                  clear x0 x1 x2 x3 x4 x5 x6 x7 x8
                  obtain ⟨k7, m7⟩ := own_kept H7.out hk A79.out.symm
                  obtain ⟨k8, m8⟩ := own_kept H8.out hk A89.out.symm
                  obtain ⟨kx, mx⟩ := heap_kept hk HX.out (fun y hy e => X9.out _ y rfl hy e.symm)
                  have kz := fun h => (heap_kept hk (HZ.out h) (own_type H9.out (HZ.out h) (by decide))).1
                  have kb := hbt wX rfl HB.out
                  have KP := Lib.hid hk
                  replace H9 := Lib.hid ho
                  replace H7 := Lib.hid k7
                  replace A79 := Lib.hid (m7.symm)
                  replace H8 := Lib.hid k8
                  replace A89 := Lib.hid (m8.symm)
                  replace HX := Lib.hid kx
                  replace X9 := Lib.hid (show apB (some ⟨wr.heap.size, 0, none⟩) (some ⟨g9, 0, none⟩) from fun u v hu hv => by cases hu; cases hv; exact mx.symm)
                  replace HZ := Lib.hid kz
                  replace HB := Lib.hid kb
                  have p2 := (kb.cell (p := ⟨w.heap.size, 2, none⟩) hz).trans Z2.out
                  have p4 := (kb.cell (p := ⟨w.heap.size, 4, none⟩) hz).trans Z4.out
                  have x0 := heapc HX.out (i := 0) (v := .int .i64 x.n) rfl
                  have x1 := heapc HX.out (i := 1) (v := .int .i64 x.k) rfl
                  have x2 := heapc HX.out (i := 2) (v := .int .i64 x.v) rfl
                  have x3 := heapc HX.out (i := 3) (v := .int .i64 x.c) rfl
                  have x4 := heapc HX.out (i := 4) (v := .int .i64 x.d) rfl
                  have x5 := heapc HX.out (i := 5) (v := .int .i64 x.rk) rfl
                  have x6 := heapc HX.out (i := 6) (v := .int .i64 x.up) rfl
                  have x7 := heapc HX.out (i := 7) (v := .int .i64 x.dn) rfl
                  have x8 := heapc HX.out (i := 8) (v := .slice (some ⟨w2.heap.size, 0, none⟩) 1 1) rfl
                  clear ho hk hbt kx mx kz kb KP k7 m7 k8 m8
                  go_wp2_with fail
                  go_roundw
                  case rel =>
                    have R7 : Hid (w4.ownsRow wX.heap.size 34 9 (.slice (some ⟨g7, 0, none⟩) (S7 ++ [((x, adk, cpk) : RE)]).length d7) (S7 ++ [((x, adk, cpk) : RE)]).length (clR (S7 ++ [((x, adk, cpk) : RE)]))) := Lib.hid (by rw [clR_snoc, List.length_append]; exact H7.out)
                    have R8 := H8
                    have R9 : Hid (w4.ownsRow wX.heap.size 34 9 (.slice (some ⟨g9, 0, none⟩) (S9 ++ [((cvr x, some ⟨w2.heap.size, 0, none⟩, 1) : RE)]).length d9) (S9 ++ [((cvr x, some ⟨w2.heap.size, 0, none⟩, 1) : RE)]).length (clR (S9 ++ [((cvr x, some ⟨w2.heap.size, 0, none⟩, 1) : RE)]))) := Lib.hid (by rw [clR_snoc, List.length_append]; exact H9.out)
                    have R7M : Hid ((S7 ++ [((x, adk, cpk) : RE)]).map (·.1) = spkL q0 l (k + 1)) := Lib.hid (by rw [map_snoc, M7.out, spkL, if_pos HSP.out, HGX.out])
                    have R8M : Hid (S8.map (·.1) = othL z l (k + 1)) := Lib.hid (by rw [othL, if_pos hkz]; exact M8.out)
                    have R9M : Hid ((S9 ++ [((cvr x, some ⟨w2.heap.size, 0, none⟩, 1) : RE)]).map (·.1) = covL z l (k + 1)) := Lib.hid (by rw [map_snoc, M9.out, covL, if_pos hkz, HGX.out])
                    have RN : Hid ((S7 ++ [((x, adk, cpk) : RE)]).length ≤ k + 1 ∧ S8.length ≤ k + 1 ∧ (S9 ++ [((cvr x, some ⟨w2.heap.size, 0, none⟩, 1) : RE)]).length ≤ k + 1) := Lib.hid (by have := HN.out; (try simp only [List.length_append, List.length_singleton]); omega)
                    have RP7 : Hid (PrsL w (S7 ++ [((x, adk, cpk) : RE)])) := Lib.hid (P7.out.snoc hPk.out)
                    have RP8 : Hid (PrsL w S8) := Lib.hid (P8.out)
                    have RP9 : Hid (CvrL w (z < k + 1) w2.heap.size (gs l z) (S9 ++ [((cvr x, some ⟨w2.heap.size, 0, none⟩, 1) : RE)])) := Lib.hid fun y hy => by
                      rw [List.mem_append, List.mem_singleton] at hy
                      rcases hy with hy | hy
                      · rcases P9.out y hy with h9 | ⟨h9, -⟩
                        · exact .inl h9
                        · omega
                      · exact .inr ⟨by omega, by rw [hy], by rw [hy, ← hkz, HGX.out]; rfl⟩
                    have RZ : Hid (z < k + 1 → w4.heap[w2.heap.size]? = some (.cells #[.int .i64 (gs l z).up, .int .i64 (gs l z).dn] 71 (0, 0))) := Lib.hid fun h => by
                      rw [← hkz, HGX.out]; exact HZ.out h
                    exact ⟨k + 1, (some ⟨g7, 0, none⟩), a8, (some ⟨g9, 0, none⟩), (S7 ++ [((x, adk, cpk) : RE)]), S8, (S9 ++ [((cvr x, some ⟨w2.heap.size, 0, none⟩, 1) : RE)]), d7, c8, d9, w2.heap.size, by omega, by go_num, by rw [List.length_append]; rfl, rfl, by rw [List.length_append]; rfl, HB.out, R7, R8, R9, A78, A79, A89, R7M, R8M, R9M, RN, RP7, RP8, RP9, RZ⟩
                  case measure => simp [intOf]; omega
              · have gz : ((k : Int) == (z : Int)) = false := beq_false_of_ne (by omega)
                go_wp2_with (first | (at_builtin; go_loud (refine app_lit rfl _ _ 25 rfl wX.heap.size 34 n0 _ 9 88 Tryz.underlying25 hi hz0 hz1 hz2 rfl (by decide) (by decide) a8 S8.length c8 _ (by rfl) H8.out #[.int .i64 x.n, .int .i64 x.k, .int .i64 x.v, .int .i64 x.c, .int .i64 x.d, .int .i64 x.rk, .int .i64 x.up, .int .i64 x.dn, .slice adk x.cv.length cpk] rfl ?e1 (by rfl) HB.out.size (by have := HN.out; omega) ?e2)))
                case e1 => simp [Value.oneCell']
                case e2 =>
                  intro g8 d8 w3 ho hk hl hbt
                  clear x0 x1 x2 x3 x4 x5 x6 x7 x8
                  obtain ⟨k7, m7⟩ := own_kept H7.out hk A78.out.symm
                  obtain ⟨k9, m9⟩ := own_kept H9.out hk A89.out
                  obtain ⟨kx, mx⟩ := heap_kept hk HX.out (fun y hy e => X8.out _ y rfl hy e.symm)
                  have kz := fun h => (heap_kept hk (HZ.out h) (own_type H8.out (HZ.out h) (by decide))).1
                  have kb := hbt wX rfl HB.out
                  have KP := Lib.hid hk
                  replace H8 := Lib.hid ho
                  replace H7 := Lib.hid k7
                  replace A78 := Lib.hid (m7.symm)
                  replace H9 := Lib.hid k9
                  replace A89 := Lib.hid (m9)
                  replace HX := Lib.hid kx
                  replace X8 := Lib.hid (show apB (some ⟨wr.heap.size, 0, none⟩) (some ⟨g8, 0, none⟩) from fun u v hu hv => by cases hu; cases hv; exact mx.symm)
                  replace HZ := Lib.hid kz
                  replace HB := Lib.hid kb
                  have p2 := (kb.cell (p := ⟨w.heap.size, 2, none⟩) hz).trans Z2.out
                  have p4 := (kb.cell (p := ⟨w.heap.size, 4, none⟩) hz).trans Z4.out
                  have x0 := heapc HX.out (i := 0) (v := .int .i64 x.n) rfl
                  have x1 := heapc HX.out (i := 1) (v := .int .i64 x.k) rfl
                  have x2 := heapc HX.out (i := 2) (v := .int .i64 x.v) rfl
                  have x3 := heapc HX.out (i := 3) (v := .int .i64 x.c) rfl
                  have x4 := heapc HX.out (i := 4) (v := .int .i64 x.d) rfl
                  have x5 := heapc HX.out (i := 5) (v := .int .i64 x.rk) rfl
                  have x6 := heapc HX.out (i := 6) (v := .int .i64 x.up) rfl
                  have x7 := heapc HX.out (i := 7) (v := .int .i64 x.dn) rfl
                  have x8 := heapc HX.out (i := 8) (v := .slice adk x.cv.length cpk) rfl
                  clear ho hk hbt kx mx kz kb KP k7 m7 k9 m9
                  go_wp2_with (first | (at_builtin; go_loud (refine app_lit rfl _ _ 25 rfl wX.heap.size 34 n0 _ 9 88 Tryz.underlying25 hi hz0 hz1 hz2 rfl (by decide) (by decide) a9 S9.length c9 _ (by rfl) H9.out #[.int .i64 x.n, .int .i64 x.k, .int .i64 x.v, .int .i64 x.c, .int .i64 x.d, .int .i64 x.rk, .int .i64 x.up, .int .i64 x.dn, .slice adk x.cv.length cpk] rfl ?e1 (by rfl) HB.out.size (by have := HN.out; omega) ?e2)))
                  case e1 => simp [Value.oneCell']
                  case e2 =>
                    intro g9 d9 w4 ho hk hl hbt
                    clear x0 x1 x2 x3 x4 x5 x6 x7 x8
                    obtain ⟨k7, m7⟩ := own_kept H7.out hk A79.out.symm
                    obtain ⟨k8, m8⟩ := own_kept H8.out hk A89.out.symm
                    obtain ⟨kx, mx⟩ := heap_kept hk HX.out (fun y hy e => X9.out _ y rfl hy e.symm)
                    have kz := fun h => (heap_kept hk (HZ.out h) (own_type H9.out (HZ.out h) (by decide))).1
                    have kb := hbt wX rfl HB.out
                    have KP := Lib.hid hk
                    replace H9 := Lib.hid ho
                    replace H7 := Lib.hid k7
                    replace A79 := Lib.hid (m7.symm)
                    replace H8 := Lib.hid k8
                    replace A89 := Lib.hid (m8.symm)
                    replace HX := Lib.hid kx
                    replace X9 := Lib.hid (show apB (some ⟨wr.heap.size, 0, none⟩) (some ⟨g9, 0, none⟩) from fun u v hu hv => by cases hu; cases hv; exact mx.symm)
                    replace HZ := Lib.hid kz
                    replace HB := Lib.hid kb
                    have p2 := (kb.cell (p := ⟨w.heap.size, 2, none⟩) hz).trans Z2.out
                    have p4 := (kb.cell (p := ⟨w.heap.size, 4, none⟩) hz).trans Z4.out
                    have x0 := heapc HX.out (i := 0) (v := .int .i64 x.n) rfl
                    have x1 := heapc HX.out (i := 1) (v := .int .i64 x.k) rfl
                    have x2 := heapc HX.out (i := 2) (v := .int .i64 x.v) rfl
                    have x3 := heapc HX.out (i := 3) (v := .int .i64 x.c) rfl
                    have x4 := heapc HX.out (i := 4) (v := .int .i64 x.d) rfl
                    have x5 := heapc HX.out (i := 5) (v := .int .i64 x.rk) rfl
                    have x6 := heapc HX.out (i := 6) (v := .int .i64 x.up) rfl
                    have x7 := heapc HX.out (i := 7) (v := .int .i64 x.dn) rfl
                    have x8 := heapc HX.out (i := 8) (v := .slice adk x.cv.length cpk) rfl
                    clear ho hk hbt kx mx kz kb KP k7 m7 k8 m8
                    go_wp2_with fail
                    go_roundw
                    case rel =>
                      have R7 : Hid (w4.ownsRow wX.heap.size 34 9 (.slice (some ⟨g7, 0, none⟩) (S7 ++ [((x, adk, cpk) : RE)]).length d7) (S7 ++ [((x, adk, cpk) : RE)]).length (clR (S7 ++ [((x, adk, cpk) : RE)]))) := Lib.hid (by rw [clR_snoc, List.length_append]; exact H7.out)
                      have R8 : Hid (w4.ownsRow wX.heap.size 34 9 (.slice (some ⟨g8, 0, none⟩) (S8 ++ [((x, adk, cpk) : RE)]).length d8) (S8 ++ [((x, adk, cpk) : RE)]).length (clR (S8 ++ [((x, adk, cpk) : RE)]))) := Lib.hid (by rw [clR_snoc, List.length_append]; exact H8.out)
                      have R9 : Hid (w4.ownsRow wX.heap.size 34 9 (.slice (some ⟨g9, 0, none⟩) (S9 ++ [((x, adk, cpk) : RE)]).length d9) (S9 ++ [((x, adk, cpk) : RE)]).length (clR (S9 ++ [((x, adk, cpk) : RE)]))) := Lib.hid (by rw [clR_snoc, List.length_append]; exact H9.out)
                      have R7M : Hid ((S7 ++ [((x, adk, cpk) : RE)]).map (·.1) = spkL q0 l (k + 1)) := Lib.hid (by rw [map_snoc, M7.out, spkL, if_pos HSP.out, HGX.out])
                      have R8M : Hid ((S8 ++ [((x, adk, cpk) : RE)]).map (·.1) = othL z l (k + 1)) := Lib.hid (by rw [map_snoc, M8.out, othL, if_neg hkz, HGX.out])
                      have R9M : Hid ((S9 ++ [((x, adk, cpk) : RE)]).map (·.1) = covL z l (k + 1)) := Lib.hid (by rw [map_snoc, M9.out, covL, if_neg hkz, HGX.out])
                      have RN : Hid ((S7 ++ [((x, adk, cpk) : RE)]).length ≤ k + 1 ∧ (S8 ++ [((x, adk, cpk) : RE)]).length ≤ k + 1 ∧ (S9 ++ [((x, adk, cpk) : RE)]).length ≤ k + 1) := Lib.hid (by have := HN.out; (try simp only [List.length_append, List.length_singleton]); omega)
                      have RP7 : Hid (PrsL w (S7 ++ [((x, adk, cpk) : RE)])) := Lib.hid (P7.out.snoc hPk.out)
                      have RP8 : Hid (PrsL w (S8 ++ [((x, adk, cpk) : RE)])) := Lib.hid (P8.out.snoc hPk.out)
                      have RP9 : Hid (CvrL w (z < k + 1) bz (gs l z) (S9 ++ [((x, adk, cpk) : RE)])) := Lib.hid fun y hy => by
                        rw [List.mem_append, List.mem_singleton] at hy
                        rcases hy with hy | hy
                        · rcases P9.out y hy with h9 | ⟨h9, h8⟩
                          · exact .inl h9
                          · exact .inr ⟨by omega, h8⟩
                        · exact .inl (by rw [hy]; exact hPk.out)
                      have RZ : Hid (z < k + 1 → w4.heap[bz]? = some (.cells #[.int .i64 (gs l z).up, .int .i64 (gs l z).dn] 71 (0, 0))) := Lib.hid fun h => by
                        exact HZ.out (by omega)
                      exact ⟨k + 1, (some ⟨g7, 0, none⟩), (some ⟨g8, 0, none⟩), (some ⟨g9, 0, none⟩), (S7 ++ [((x, adk, cpk) : RE)]), (S8 ++ [((x, adk, cpk) : RE)]), (S9 ++ [((x, adk, cpk) : RE)]), d7, d8, d9, bz, by omega, by go_num, by rw [List.length_append]; rfl, by rw [List.length_append]; rfl, by rw [List.length_append]; rfl, HB.out, R7, R8, R9, A78, A79, A89, R7M, R8M, R9M, RN, RP7, RP8, RP9, RZ⟩
                    case measure => simp [intOf]; omega
          | false =>
            by_cases hkz : k = z
            · have gz : ((k : Int) == (z : Int)) = true := by rw [hkz]; simp
              have hBX := heap_lt HX.out
              have hfz : w1.frozen? ⟨wr.heap.size, 8, none⟩ = false := by simp [World.frozen?, HX.out]
              go_upto_region 15 with (fail)
              obtain ⟨wS, hwS⟩ : ∃ wS, (w1.setCell ⟨wr.heap.size, 8, none⟩ (.slice (some ⟨w1.heap.size, 0, none⟩) 1 1)).alloc (.cells #[.int .i64 x.up, .int .i64 x.dn] 71) = wS := ⟨_, rfl⟩
              have hsz : (w1.setCell ⟨wr.heap.size, 8, none⟩ (.slice (some ⟨w1.heap.size, 0, none⟩) 1 1)).heap.size = w1.heap.size := by simp
              have hkS : KpB w1 wS (some ⟨wr.heap.size, 0, none⟩) w1.heap.size := fun B hB hne => by
                have h1 : wr.heap.size ≠ B := hne _ rfl
                refine ⟨?_, by omega⟩
                rw [← hwS, allocOld _ _ (by rw [hsz]; exact hB), heap_setCell_other _ _ _ _ (Ne.symm h1)]
              have hXs : wS.heap[wr.heap.size]? = some (.cells #[.int .i64 x.n, .int .i64 x.k, .int .i64 x.v, .int .i64 x.c, .int .i64 x.d, .int .i64 x.rk, .int .i64 x.up, .int .i64 x.dn, .slice (some ⟨w1.heap.size, 0, none⟩) 1 1] 34 (0, 0)) := by
                have h9 := heap_setCell_same w1 wr.heap.size 8 _ 34 (.slice (some ⟨w1.heap.size, 0, none⟩) 1 1) HX.out
                rw [← hwS, allocOld _ _ (by rw [hsz]; exact hBX)]
                exact h9
              have hZs : wS.heap[w1.heap.size]? = some (.cells #[.int .i64 x.up, .int .i64 x.dn] 71 (0, 0)) := by
                have h9 := heap_alloc_new (w1.setCell ⟨wr.heap.size, 8, none⟩ (.slice (some ⟨w1.heap.size, 0, none⟩) 1 1)) (.cells #[.int .i64 x.up, .int .i64 x.dn] 71)
                rw [hsz] at h9
                rw [← hwS]
                exact h9
              have hBs : Below wX.heap.size wX wS := by
                rw [← hwS]
                exact (Below.setCell HB.out (by have := HR.out; exact this) _).alloc (by rw [hsz]; exact HB.out.size) _
              replace H7 := Lib.hid (own_kept H7.out hkS X7.out).1
              replace H8 := Lib.hid (own_kept H8.out hkS X8.out).1
              replace H9 := Lib.hid (own_kept H9.out hkS X9.out).1
              replace X9 := Lib.hid (show apB (some ⟨wr.heap.size, 0, none⟩) a9 from X9.out)
              replace HX := Lib.hid hXs
              replace HB := Lib.hid hBs
              replace HZ := Lib.hid (fun (_ : z < k + 1) => hZs)
              rw [hwS]
              clear hwS hkS hXs hfz hsz
              clear x0 x1 x2 x3 x4 x5 x6 x7 x8
              replace p2 := (hBs.cell (p := ⟨w.heap.size, 2, none⟩) hz).trans Z2.out
              replace p4 := (hBs.cell (p := ⟨w.heap.size, 4, none⟩) hz).trans Z4.out
              clear hBs hZs hBX
              have x0 := heapc HX.out (i := 0) (v := .int .i64 x.n) rfl
              have x1 := heapc HX.out (i := 1) (v := .int .i64 x.k) rfl
              have x2 := heapc HX.out (i := 2) (v := .int .i64 x.v) rfl
              have x3 := heapc HX.out (i := 3) (v := .int .i64 x.c) rfl
              have x4 := heapc HX.out (i := 4) (v := .int .i64 x.d) rfl
              have x5 := heapc HX.out (i := 5) (v := .int .i64 x.rk) rfl
              have x6 := heapc HX.out (i := 6) (v := .int .i64 x.up) rfl
              have x7 := heapc HX.out (i := 7) (v := .int .i64 x.dn) rfl
              have x8 := heapc HX.out (i := 8) (v := .slice (some ⟨w1.heap.size, 0, none⟩) 1 1) rfl
              go_wp2_with (first | (at_builtin; go_loud (refine app_lit rfl _ _ 25 rfl wX.heap.size 34 n0 _ 9 88 Tryz.underlying25 hi hz0 hz1 hz2 rfl (by decide) (by decide) a9 S9.length c9 _ (by rfl) H9.out #[.int .i64 x.n, .int .i64 x.k, .int .i64 x.v, .int .i64 x.c, .int .i64 x.d, .int .i64 x.rk, .int .i64 x.up, .int .i64 x.dn, .slice (some ⟨w1.heap.size, 0, none⟩) 1 1] rfl ?e1 (by rfl) HB.out.size (by have := HN.out; omega) ?e2)))
              case e1 => simp [Value.oneCell']
              case e2 =>
                intro g9 d9 w4 ho hk hl hbt
                clear x0 x1 x2 x3 x4 x5 x6 x7 x8
                obtain ⟨k7, m7⟩ := own_kept H7.out hk A79.out.symm
                obtain ⟨k8, m8⟩ := own_kept H8.out hk A89.out.symm
                obtain ⟨kx, mx⟩ := heap_kept hk HX.out (fun y hy e => X9.out _ y rfl hy e.symm)
                have kz := fun h => (heap_kept hk (HZ.out h) (own_type H9.out (HZ.out h) (by decide))).1
                have kb := hbt wX rfl HB.out
                have KP := Lib.hid hk
                replace H9 := Lib.hid ho
                replace H7 := Lib.hid k7
                replace A79 := Lib.hid (m7.symm)
                replace H8 := Lib.hid k8
                replace A89 := Lib.hid (m8.symm)
                replace HX := Lib.hid kx
                replace X9 := Lib.hid (show apB (some ⟨wr.heap.size, 0, none⟩) (some ⟨g9, 0, none⟩) from fun u v hu hv => by cases hu; cases hv; exact mx.symm)
                replace HZ := Lib.hid kz
                replace HB := Lib.hid kb
                have p2 := (kb.cell (p := ⟨w.heap.size, 2, none⟩) hz).trans Z2.out
                have p4 := (kb.cell (p := ⟨w.heap.size, 4, none⟩) hz).trans Z4.out
                have x0 := heapc HX.out (i := 0) (v := .int .i64 x.n) rfl
                have x1 := heapc HX.out (i := 1) (v := .int .i64 x.k) rfl
                have x2 := heapc HX.out (i := 2) (v := .int .i64 x.v) rfl
                have x3 := heapc HX.out (i := 3) (v := .int .i64 x.c) rfl
                have x4 := heapc HX.out (i := 4) (v := .int .i64 x.d) rfl
                have x5 := heapc HX.out (i := 5) (v := .int .i64 x.rk) rfl
                have x6 := heapc HX.out (i := 6) (v := .int .i64 x.up) rfl
                have x7 := heapc HX.out (i := 7) (v := .int .i64 x.dn) rfl
                have x8 := heapc HX.out (i := 8) (v := .slice (some ⟨w1.heap.size, 0, none⟩) 1 1) rfl
                clear ho hk hbt kx mx kz kb KP k7 m7 k8 m8
                go_wp2_with fail
                go_roundw
                case rel =>
                  have R7 := H7
                  have R8 := H8
                  have R9 : Hid (w4.ownsRow wX.heap.size 34 9 (.slice (some ⟨g9, 0, none⟩) (S9 ++ [((cvr x, some ⟨w1.heap.size, 0, none⟩, 1) : RE)]).length d9) (S9 ++ [((cvr x, some ⟨w1.heap.size, 0, none⟩, 1) : RE)]).length (clR (S9 ++ [((cvr x, some ⟨w1.heap.size, 0, none⟩, 1) : RE)]))) := Lib.hid (by rw [clR_snoc, List.length_append]; exact H9.out)
                  have R7M : Hid (S7.map (·.1) = spkL q0 l (k + 1)) := Lib.hid (by rw [spkL, if_neg (by rw [HSP.out]; decide)]; exact M7.out)
                  have R8M : Hid (S8.map (·.1) = othL z l (k + 1)) := Lib.hid (by rw [othL, if_pos hkz]; exact M8.out)
                  have R9M : Hid ((S9 ++ [((cvr x, some ⟨w1.heap.size, 0, none⟩, 1) : RE)]).map (·.1) = covL z l (k + 1)) := Lib.hid (by rw [map_snoc, M9.out, covL, if_pos hkz, HGX.out])
                  have RN : Hid (S7.length ≤ k + 1 ∧ S8.length ≤ k + 1 ∧ (S9 ++ [((cvr x, some ⟨w1.heap.size, 0, none⟩, 1) : RE)]).length ≤ k + 1) := Lib.hid (by have := HN.out; (try simp only [List.length_append, List.length_singleton]); omega)
                  have RP7 : Hid (PrsL w S7) := Lib.hid (P7.out)
                  have RP8 : Hid (PrsL w S8) := Lib.hid (P8.out)
                  have RP9 : Hid (CvrL w (z < k + 1) w1.heap.size (gs l z) (S9 ++ [((cvr x, some ⟨w1.heap.size, 0, none⟩, 1) : RE)])) := Lib.hid fun y hy => by
                    rw [List.mem_append, List.mem_singleton] at hy
                    rcases hy with hy | hy
                    · rcases P9.out y hy with h9 | ⟨h9, -⟩
                      · exact .inl h9
                      · omega
                    · exact .inr ⟨by omega, by rw [hy], by rw [hy, ← hkz, HGX.out]; rfl⟩
                  have RZ : Hid (z < k + 1 → w4.heap[w1.heap.size]? = some (.cells #[.int .i64 (gs l z).up, .int .i64 (gs l z).dn] 71 (0, 0))) := Lib.hid fun h => by
                    rw [← hkz, HGX.out]; exact HZ.out h
                  exact ⟨k + 1, a7, a8, (some ⟨g9, 0, none⟩), S7, S8, (S9 ++ [((cvr x, some ⟨w1.heap.size, 0, none⟩, 1) : RE)]), c7, c8, d9, w1.heap.size, by omega, by go_num, rfl, rfl, by rw [List.length_append]; rfl, HB.out, R7, R8, R9, A78, A79, A89, R7M, R8M, R9M, RN, RP7, RP8, RP9, RZ⟩
                case measure => simp [intOf]; omega
            · have gz : ((k : Int) == (z : Int)) = false := beq_false_of_ne (by omega)
              go_wp2_with (first | (at_builtin; go_loud (refine app_lit rfl _ _ 25 rfl wX.heap.size 34 n0 _ 9 88 Tryz.underlying25 hi hz0 hz1 hz2 rfl (by decide) (by decide) a8 S8.length c8 _ (by rfl) H8.out #[.int .i64 x.n, .int .i64 x.k, .int .i64 x.v, .int .i64 x.c, .int .i64 x.d, .int .i64 x.rk, .int .i64 x.up, .int .i64 x.dn, .slice adk x.cv.length cpk] rfl ?e1 (by rfl) HB.out.size (by have := HN.out; omega) ?e2)))
              case e1 => simp [Value.oneCell']
              case e2 =>
                intro g8 d8 w3 ho hk hl hbt
                clear x0 x1 x2 x3 x4 x5 x6 x7 x8
                obtain ⟨k7, m7⟩ := own_kept H7.out hk A78.out.symm
                obtain ⟨k9, m9⟩ := own_kept H9.out hk A89.out
                obtain ⟨kx, mx⟩ := heap_kept hk HX.out (fun y hy e => X8.out _ y rfl hy e.symm)
                have kz := fun h => (heap_kept hk (HZ.out h) (own_type H8.out (HZ.out h) (by decide))).1
                have kb := hbt wX rfl HB.out
                have KP := Lib.hid hk
                replace H8 := Lib.hid ho
                replace H7 := Lib.hid k7
                replace A78 := Lib.hid (m7.symm)
                replace H9 := Lib.hid k9
                replace A89 := Lib.hid (m9)
                replace HX := Lib.hid kx
                replace X8 := Lib.hid (show apB (some ⟨wr.heap.size, 0, none⟩) (some ⟨g8, 0, none⟩) from fun u v hu hv => by cases hu; cases hv; exact mx.symm)
                replace HZ := Lib.hid kz
                replace HB := Lib.hid kb
                have p2 := (kb.cell (p := ⟨w.heap.size, 2, none⟩) hz).trans Z2.out
                have p4 := (kb.cell (p := ⟨w.heap.size, 4, none⟩) hz).trans Z4.out
                have x0 := heapc HX.out (i := 0) (v := .int .i64 x.n) rfl
                have x1 := heapc HX.out (i := 1) (v := .int .i64 x.k) rfl
                have x2 := heapc HX.out (i := 2) (v := .int .i64 x.v) rfl
                have x3 := heapc HX.out (i := 3) (v := .int .i64 x.c) rfl
                have x4 := heapc HX.out (i := 4) (v := .int .i64 x.d) rfl
                have x5 := heapc HX.out (i := 5) (v := .int .i64 x.rk) rfl
                have x6 := heapc HX.out (i := 6) (v := .int .i64 x.up) rfl
                have x7 := heapc HX.out (i := 7) (v := .int .i64 x.dn) rfl
                have x8 := heapc HX.out (i := 8) (v := .slice adk x.cv.length cpk) rfl
                clear ho hk hbt kx mx kz kb KP k7 m7 k9 m9
                go_wp2_with (first | (at_builtin; go_loud (refine app_lit rfl _ _ 25 rfl wX.heap.size 34 n0 _ 9 88 Tryz.underlying25 hi hz0 hz1 hz2 rfl (by decide) (by decide) a9 S9.length c9 _ (by rfl) H9.out #[.int .i64 x.n, .int .i64 x.k, .int .i64 x.v, .int .i64 x.c, .int .i64 x.d, .int .i64 x.rk, .int .i64 x.up, .int .i64 x.dn, .slice adk x.cv.length cpk] rfl ?e1 (by rfl) HB.out.size (by have := HN.out; omega) ?e2)))
                case e1 => simp [Value.oneCell']
                case e2 =>
                  intro g9 d9 w4 ho hk hl hbt
                  clear x0 x1 x2 x3 x4 x5 x6 x7 x8
                  obtain ⟨k7, m7⟩ := own_kept H7.out hk A79.out.symm
                  obtain ⟨k8, m8⟩ := own_kept H8.out hk A89.out.symm
                  obtain ⟨kx, mx⟩ := heap_kept hk HX.out (fun y hy e => X9.out _ y rfl hy e.symm)
                  have kz := fun h => (heap_kept hk (HZ.out h) (own_type H9.out (HZ.out h) (by decide))).1
                  have kb := hbt wX rfl HB.out
                  have KP := Lib.hid hk
                  replace H9 := Lib.hid ho
                  replace H7 := Lib.hid k7
                  replace A79 := Lib.hid (m7.symm)
                  replace H8 := Lib.hid k8
                  replace A89 := Lib.hid (m8.symm)
                  replace HX := Lib.hid kx
                  replace X9 := Lib.hid (show apB (some ⟨wr.heap.size, 0, none⟩) (some ⟨g9, 0, none⟩) from fun u v hu hv => by cases hu; cases hv; exact mx.symm)
                  replace HZ := Lib.hid kz
                  replace HB := Lib.hid kb
                  have p2 := (kb.cell (p := ⟨w.heap.size, 2, none⟩) hz).trans Z2.out
                  have p4 := (kb.cell (p := ⟨w.heap.size, 4, none⟩) hz).trans Z4.out
                  have x0 := heapc HX.out (i := 0) (v := .int .i64 x.n) rfl
                  have x1 := heapc HX.out (i := 1) (v := .int .i64 x.k) rfl
                  have x2 := heapc HX.out (i := 2) (v := .int .i64 x.v) rfl
                  have x3 := heapc HX.out (i := 3) (v := .int .i64 x.c) rfl
                  have x4 := heapc HX.out (i := 4) (v := .int .i64 x.d) rfl
                  have x5 := heapc HX.out (i := 5) (v := .int .i64 x.rk) rfl
                  have x6 := heapc HX.out (i := 6) (v := .int .i64 x.up) rfl
                  have x7 := heapc HX.out (i := 7) (v := .int .i64 x.dn) rfl
                  have x8 := heapc HX.out (i := 8) (v := .slice adk x.cv.length cpk) rfl
                  clear ho hk hbt kx mx kz kb KP k7 m7 k8 m8
                  go_wp2_with fail
                  go_roundw
                  case rel =>
                    have R7 := H7
                    have R8 : Hid (w4.ownsRow wX.heap.size 34 9 (.slice (some ⟨g8, 0, none⟩) (S8 ++ [((x, adk, cpk) : RE)]).length d8) (S8 ++ [((x, adk, cpk) : RE)]).length (clR (S8 ++ [((x, adk, cpk) : RE)]))) := Lib.hid (by rw [clR_snoc, List.length_append]; exact H8.out)
                    have R9 : Hid (w4.ownsRow wX.heap.size 34 9 (.slice (some ⟨g9, 0, none⟩) (S9 ++ [((x, adk, cpk) : RE)]).length d9) (S9 ++ [((x, adk, cpk) : RE)]).length (clR (S9 ++ [((x, adk, cpk) : RE)]))) := Lib.hid (by rw [clR_snoc, List.length_append]; exact H9.out)
                    have R7M : Hid (S7.map (·.1) = spkL q0 l (k + 1)) := Lib.hid (by rw [spkL, if_neg (by rw [HSP.out]; decide)]; exact M7.out)
                    have R8M : Hid ((S8 ++ [((x, adk, cpk) : RE)]).map (·.1) = othL z l (k + 1)) := Lib.hid (by rw [map_snoc, M8.out, othL, if_neg hkz, HGX.out])
                    have R9M : Hid ((S9 ++ [((x, adk, cpk) : RE)]).map (·.1) = covL z l (k + 1)) := Lib.hid (by rw [map_snoc, M9.out, covL, if_neg hkz, HGX.out])
                    have RN : Hid (S7.length ≤ k + 1 ∧ (S8 ++ [((x, adk, cpk) : RE)]).length ≤ k + 1 ∧ (S9 ++ [((x, adk, cpk) : RE)]).length ≤ k + 1) := Lib.hid (by have := HN.out; (try simp only [List.length_append, List.length_singleton]); omega)
                    have RP7 : Hid (PrsL w S7) := Lib.hid (P7.out)
                    have RP8 : Hid (PrsL w (S8 ++ [((x, adk, cpk) : RE)])) := Lib.hid (P8.out.snoc hPk.out)
                    have RP9 : Hid (CvrL w (z < k + 1) bz (gs l z) (S9 ++ [((x, adk, cpk) : RE)])) := Lib.hid fun y hy => by
                      rw [List.mem_append, List.mem_singleton] at hy
                      rcases hy with hy | hy
                      · rcases P9.out y hy with h9 | ⟨h9, h8⟩
                        · exact .inl h9
                        · exact .inr ⟨by omega, h8⟩
                      · exact .inl (by rw [hy]; exact hPk.out)
                    have RZ : Hid (z < k + 1 → w4.heap[bz]? = some (.cells #[.int .i64 (gs l z).up, .int .i64 (gs l z).dn] 71 (0, 0))) := Lib.hid fun h => by
                      exact HZ.out (by omega)
                    exact ⟨k + 1, a7, (some ⟨g8, 0, none⟩), (some ⟨g9, 0, none⟩), S7, (S8 ++ [((x, adk, cpk) : RE)]), (S9 ++ [((x, adk, cpk) : RE)]), c7, d8, d9, bz, by omega, by go_num, rfl, by rw [List.length_append]; rfl, by rw [List.length_append]; rfl, HB.out, R7, R8, R9, A78, A79, A89, R7M, R8M, R9M, RN, RP7, RP8, RP9, RZ⟩
                  case measure => simp [intOf]; omega
        · obtain rfl : k = l.length := by omega
          have HBR := Lib.hid (HBW.out.trans (hbr.mono HBW.out.size))
          have HZ2 := HZ.out HZL.out
          have htz : timeB (gs l z).up (gs l z).dn = true := by
            have h1 := ((sgns_iff L js l).1 HSG.out).2.2.1 (gs l z) (by rw [gs_at _ HZL.out]; exact List.getElem_mem _)
            have h2 := h1.2
            unfold sgnB at h2
            simp only [Bool.and_eq_true] at h2
            exact h2.1.1.2
          have PR9 := cvr_prs P9.out HBR.out (fun _ => HZ2) htz
          obtain ⟨V1, hV1⟩ : ∃ V, hldV L js l q0 q1 q2 M = V := ⟨_, rfl⟩
          obtain ⟨V2, hV2⟩ : ∃ V, hldV L js (othL z l l.length) q0 q1 q2 M = V := ⟨_, rfl⟩
          have HO := Lib.hid (fun W (hW : Below wr.heap.size wr W) => show Calls Tryz.prog 21 #[.agg #[.int .i64 L, .slice a js.length ca], .slice aa l.length cl, .int .i64 q0, .int .i64 q1, .int .i64 q2, .int .i64 M] W (NumA V1 0 W) by
            have h9 := Holds_good L a js ca aa l cl q0 q1 q2 M ((lst_iff _ _ _).2 HSG.out) HQ0.out HQ1.out HQ2.out HMB.out W (HI.out.below (HBR.out.trans (hW.mono HBR.out.size))) (HA.out.below (HBR.out.trans (hW.mono HBR.out.size)))
            rw [hV1] at h9
            exact h9)
          have HO7 := Lib.hid (fun W (hW : Below wr.heap.size wr W) => holds_row L a js ca a7 S7 c7 _ q0 q1 q2 M V1 ((hld_spk L js l q0 q1 q2 M).trans hV1) (spk_good q0 HSG.out) M7.out HQ0.out HQ1.out HQ2.out HMB.out _ W (HI.out.below (HBR.out.trans (hW.mono HBR.out.size))) (owns_belowI H7.out hW) (P7.out.below (HBR.out.trans (hW.mono HBR.out.size))))
          have HO8 := Lib.hid (fun W (hW : Below wr.heap.size wr W) => holds_row L a js ca a8 S8 c8 _ q0 q1 q2 M V2 hV2 (oth_good z HSG.out) M8.out HQ0.out HQ1.out HQ2.out HMB.out _ W (HI.out.below (HBR.out.trans (hW.mono HBR.out.size))) (owns_belowI H8.out hW) (P8.out.below (HBR.out.trans (hW.mono HBR.out.size))))
          have HO9 := Lib.hid (fun W (hW : Below wr.heap.size wr W) => holds_row L a js ca a9 S9 c9 _ q0 q1 q2 M V2 ((hld_oth L js l z q0 q1 q2 M).trans hV2) (cov_good HSG.out) M9.out HQ0.out HQ1.out HQ2.out HMB.out _ W (HI.out.below (HBR.out.trans (hW.mono HBR.out.size))) (owns_belowI H9.out hW) (PR9.below hW))
          have p0 := cell_below Z0.out hbr
          have p1 := cell_below Z1.out hbr
          have p5 := cell_below Z5.out hbr
          have p6 := cell_below Z6.out hbr
          have hbq : Below wr.heap.size wr wr := Below.refl _ _
          have n1 : (V1 != V1) = false := by simp
          have n2 : (V2 != V2) = false := by simp
          clear hV1 hV2 PR9 htz HZ2 HZ H7 H8 H9 A78 A79 A89 M7 M8 M9 HN P7 P8 P9 hbr hlt
          go_upto_region 22 with (first | (go_at_call 21; (with_reducible refine Calls.mono (HO.out _ hbq) ?_); rintro e w9 ⟨rfl, hb9⟩; replace hbq := hbq.trans (hb9.mono hbq.size); replace p0 := cell_below p0 hb9; replace p1 := cell_below p1 hb9; replace p2 := cell_below p2 hb9; replace p4 := cell_below p4 hb9; replace p5 := cell_below p5 hb9; replace p6 := cell_below p6 hb9; clear hb9) | (go_at_call 21; (with_reducible refine Calls.mono (HO7.out _ hbq) ?_); rintro e w9 ⟨rfl, hb9⟩; replace hbq := hbq.trans (hb9.mono hbq.size); replace p0 := cell_below p0 hb9; replace p1 := cell_below p1 hb9; replace p2 := cell_below p2 hb9; replace p4 := cell_below p4 hb9; replace p5 := cell_below p5 hb9; replace p6 := cell_below p6 hb9; clear hb9) | (go_at_call 21; (with_reducible refine Calls.mono (HO8.out _ hbq) ?_); rintro e w9 ⟨rfl, hb9⟩; replace hbq := hbq.trans (hb9.mono hbq.size); replace p0 := cell_below p0 hb9; replace p1 := cell_below p1 hb9; replace p2 := cell_below p2 hb9; replace p4 := cell_below p4 hb9; replace p5 := cell_below p5 hb9; replace p6 := cell_below p6 hb9; clear hb9) | (go_at_call 21; (with_reducible refine Calls.mono (HO9.out _ hbq) ?_); rintro e w9 ⟨rfl, hb9⟩; replace hbq := hbq.trans (hb9.mono hbq.size); replace p0 := cell_below p0 hb9; replace p1 := cell_below p1 hb9; replace p2 := cell_below p2 hb9; replace p4 := cell_below p4 hb9; replace p5 := cell_below p5 hb9; replace p6 := cell_below p6 hb9; clear hb9))
          clear HO HO7 HO8 HO9 n1 n2
          have HBE := Lib.hid (HBR.out.trans (hbq.mono HBR.out.size))
          obtain ⟨wE, rfl⟩ : ∃ wE : World, wE = w9 := ⟨_, rfl⟩
          have Y0 := Lib.hid p0
          have Y1 := Lib.hid p1
          have Y2 := Lib.hid p2
          have Y4 := Lib.hid p4
          have Y5 := Lib.hid p5
          have Y6 := Lib.hid p6
          clear HBR hbq
          go_wp2_with fail
          go_loopw [20, 21, 22] (fun v0 v1 i wr => ∃ (k : Nat) (a0 a1 : Option Addr) (S0 S1 : List RE) (c0 c1 : Nat), k ≤ l.length ∧ i = .int .i64 k ∧ v0 = .slice a0 S0.length c0 ∧ v1 = .slice a1 S1.length c1 ∧ Below wE.heap.size wE wr ∧ Hid (wr.ownsRow wE.heap.size 34 9 (.slice a0 S0.length c0) S0.length (clR S0)) ∧ Hid (wr.ownsRow wE.heap.size 34 9 (.slice a1 S1.length c1) S1.length (clR S1)) ∧ Hid (apB a0 a1) ∧ Hid (S0.map (·.1) = somL l k) ∧ Hid (S1.map (·.1) = allL l k) ∧ Hid (S0.length ≤ k ∧ S1.length ≤ k) ∧ Hid (PrsL w S0) ∧ Hid (PrsL w S1)) (fun _ _ i _ => l.length - (intOf i).toNat)
          case atStart => exact ⟨0, none, none, [], [], 0, 0, Nat.zero_le _, rfl, rfl, rfl, Below.refl _ _, Lib.hid (World.ownsRow_nil _ _ _ _), Lib.hid (World.ownsRow_nil _ _ _ _), Lib.hid (apB_none _), Lib.hid rfl, Lib.hid rfl, Lib.hid ⟨Nat.le_refl _, Nat.le_refl _⟩, Lib.hid HP0, Lib.hid HP0⟩
          case round =>
            obtain ⟨k, a0, a1, S0, S1, c0, c1, hk, rfl, rfl, rfl, hbr, H0, H1, A01, M0, M1, HN, P0, P1⟩ := hrel
            have p2 := cell_below Y2.out hbr
            have hzE := block_lt Y2.out
            by_cases hlt : k < l.length
            · obtain rfl := HL.out (by omega)
              have hbw := HBE.out.trans (hbr.mono HBE.out.size)
              obtain ⟨⟨b0, b1, b2, b3, b4, b5, b6, b7⟩, b8, hP⟩ := HC.out k hlt
              have hPk := Lib.hid (HCP.out k hlt)
              have b0 := cell_below b0 hbw
              have b1 := cell_below b1 hbw
              have b2 := cell_below b2 hbw
              have b3 := cell_below b3 hbw
              have b4 := cell_below b4 hbw
              have b5 := cell_below b5 hbw
              have b6 := cell_below b6 hbw
              have b7 := cell_below b7 hbw
              have b8 := cell_below b8 hbw
              have gk1 : (k : Int) < (l.length : Int) := by omega
              obtain ⟨adk, hadk⟩ : ∃ x, ad k = x := ⟨_, rfl⟩
              obtain ⟨cpk, hcpk⟩ : ∃ x, cp k = x := ⟨_, rfl⟩
              rw [hadk] at b8 hPk hP
              rw [hcpk] at b8
              obtain ⟨x, hx⟩ : ∃ x, gs l k = x := ⟨_, rfl⟩
              rw [hx] at b0 b1 b2 b3 b4 b5 b6 b7 b8 hPk
              have HGX := Lib.hid hx
              clear hx hadk hcpk hP HC HL HCP HSp HA hlt
              have hzr := block_lt p2
              go_upto_region 27 with (fail)
              obtain ⟨wA, hwA⟩ : ∃ wA, wr.alloc (.cells #[.int .i64 x.n, .int .i64 x.k, .int .i64 x.v, .int .i64 x.c, .int .i64 x.d, .int .i64 x.rk, .int .i64 x.up, .int .i64 x.dn, .slice adk x.cv.length cpk] 34) = wA := ⟨_, rfl⟩
              have HX : Hid (wA.heap[wr.heap.size]? = some (.cells #[.int .i64 x.n, .int .i64 x.k, .int .i64 x.v, .int .i64 x.c, .int .i64 x.d, .int .i64 x.rk, .int .i64 x.up, .int .i64 x.dn, .slice adk x.cv.length cpk] 34 (0, 0))) := Lib.hid (by rw [← hwA]; exact heap_alloc_new _ _)
              have hbA : Below wr.heap.size wr wA := by rw [← hwA]; exact (Below.refl _ _).alloc (Nat.le_refl _) _
              have X0 := Lib.hid (show apB (some ⟨wr.heap.size, 0, none⟩) a0 from fun u v hu hv e => by cases hu; have e : wr.heap.size = v.block := e; have := (own_lt H0.out v hv).2.2; omega)
              have X1 := Lib.hid (show apB (some ⟨wr.heap.size, 0, none⟩) a1 from fun u v hu hv e => by cases hu; have e : wr.heap.size = v.block := e; have := (own_lt H1.out v hv).2.2; omega)
              have HB := Lib.hid (hbr.trans (hbA.mono hbr.size))
              replace H0 := Lib.hid (owns_belowI H0.out hbA)
              replace H1 := Lib.hid (owns_belowI H1.out hbA)
              replace p2 := cell_below p2 hbA
              rw [hwA]
              clear hwA hbA hbr b0 b1 b2 b3 b4 b5 b6 b7 b8
              have x0 := heapc HX.out (i := 0) (v := .int .i64 x.n) rfl
              have x1 := heapc HX.out (i := 1) (v := .int .i64 x.k) rfl
              have x2 := heapc HX.out (i := 2) (v := .int .i64 x.v) rfl
              have x3 := heapc HX.out (i := 3) (v := .int .i64 x.c) rfl
              have x4 := heapc HX.out (i := 4) (v := .int .i64 x.d) rfl
              have x5 := heapc HX.out (i := 5) (v := .int .i64 x.rk) rfl
              have x6 := heapc HX.out (i := 6) (v := .int .i64 x.up) rfl
              have x7 := heapc HX.out (i := 7) (v := .int .i64 x.dn) rfl
              have x8 := heapc HX.out (i := 8) (v := .slice adk x.cv.length cpk) rfl
              by_cases hk7 : x.k = 7
              · have d7 : (x.k != 7) = false := by rw [hk7]; rfl
                go_wp2_with fail
                go_roundw
                case rel =>
                  have R0 : Hid (wA.ownsRow wE.heap.size 34 9 (.slice a0 S0.length c0) S0.length (clR S0)) := H0
                  have RP0 : Hid (PrsL w S0) := Lib.hid (P0.out)
                  have R1 : Hid (wA.ownsRow wE.heap.size 34 9 (.slice a1 S1.length c1) S1.length (clR S1)) := H1
                  have RP1 : Hid (PrsL w S1) := Lib.hid (P1.out)
                  have R1M : Hid (S1.map (·.1) = allL l (k + 1)) := Lib.hid (by rw [allL, if_pos (by rw [HGX.out]; exact hk7)]; exact M1.out)
                  have R0M : Hid (S0.map (·.1) = somL l (k + 1)) := Lib.hid (by rw [somL, if_pos (by rw [HGX.out]; exact hk7)]; exact M0.out)
                  have RN : Hid (S0.length ≤ k + 1 ∧ S1.length ≤ k + 1) := Lib.hid (by have := HN.out; (try simp only [List.length_append, List.length_singleton]); omega)
                  exact ⟨k + 1, a0, a1, S0, S1, c0, c1, by omega, by go_num, rfl, rfl, HB.out, R0, R1, A01, R0M, R1M, RN, RP0, RP1⟩
                case measure => simp [intOf]; omega
              · have d7 : (x.k != 7) = true := by simpa using hk7
                go_wp2_with (first | (at_builtin; go_loud (refine app_lit rfl _ _ 25 rfl wE.heap.size 34 n0 _ 9 88 Tryz.underlying25 hi hz0 hz1 hz2 rfl (by decide) (by decide) a1 S1.length c1 _ (by rfl) H1.out #[.int .i64 x.n, .int .i64 x.k, .int .i64 x.v, .int .i64 x.c, .int .i64 x.d, .int .i64 x.rk, .int .i64 x.up, .int .i64 x.dn, .slice adk x.cv.length cpk] rfl ?e1 (by rfl) HB.out.size (by have := HN.out; omega) ?e2)))
                case e1 => simp [Value.oneCell']
                case e2 =>
                  intro g1 d1 w3 ho hk hl hbt
                  obtain ⟨k0, m0⟩ := own_kept H0.out hk A01.out.symm
                  obtain ⟨kx, mx⟩ := heap_kept hk HX.out (fun y hy e => X1.out _ y rfl hy e.symm)
                  have kb := hbt wE rfl HB.out
                  replace H1 := Lib.hid ho
                  replace H0 := Lib.hid k0
                  replace A01 := Lib.hid (m0.symm)
                  replace HX := Lib.hid kx
                  replace HB := Lib.hid kb
                  have p2 := (kb.cell (p := ⟨w.heap.size, 2, none⟩) hzE).trans Y2.out
                  clear x0 x1 x2 x3 x4 x5 x6 x7 x8
                  have x0 := heapc HX.out (i := 0) (v := .int .i64 x.n) rfl
                  have x1 := heapc HX.out (i := 1) (v := .int .i64 x.k) rfl
                  have x2 := heapc HX.out (i := 2) (v := .int .i64 x.v) rfl
                  have x3 := heapc HX.out (i := 3) (v := .int .i64 x.c) rfl
                  have x4 := heapc HX.out (i := 4) (v := .int .i64 x.d) rfl
                  have x5 := heapc HX.out (i := 5) (v := .int .i64 x.rk) rfl
                  have x6 := heapc HX.out (i := 6) (v := .int .i64 x.up) rfl
                  have x7 := heapc HX.out (i := 7) (v := .int .i64 x.dn) rfl
                  have x8 := heapc HX.out (i := 8) (v := .slice adk x.cv.length cpk) rfl
                  clear ho hk hbt kx mx kb k0 m0
                  by_cases hk8 : x.k = 8
                  · have d8 : (x.k != 8) = false := by rw [hk8]; rfl
                    go_wp2_with fail
                    go_roundw
                    case rel =>
                      have R0 : Hid (w3.ownsRow wE.heap.size 34 9 (.slice a0 S0.length c0) S0.length (clR S0)) := H0
                      have RP0 : Hid (PrsL w S0) := Lib.hid (P0.out)
                      have R1 : Hid (w3.ownsRow wE.heap.size 34 9 (.slice (some ⟨g1, 0, none⟩) (S1 ++ [((x, adk, cpk) : RE)]).length d1) (S1 ++ [((x, adk, cpk) : RE)]).length (clR (S1 ++ [((x, adk, cpk) : RE)]))) := Lib.hid (by rw [clR_snoc, List.length_append]; exact H1.out)
                      have RP1 : Hid (PrsL w (S1 ++ [((x, adk, cpk) : RE)])) := Lib.hid (P1.out.snoc hPk.out)
                      have R1M : Hid ((S1 ++ [((x, adk, cpk) : RE)]).map (·.1) = allL l (k + 1)) := Lib.hid (by rw [map_snoc, M1.out, allL, if_neg (by rw [HGX.out]; exact hk7), HGX.out])
                      have R0M : Hid (S0.map (·.1) = somL l (k + 1)) := Lib.hid (by rw [somL, if_neg (by rw [HGX.out]; exact hk7)]; first | (rw [if_pos (by rw [HGX.out]; exact hk8)]; exact M0.out) | (rw [if_neg (by rw [HGX.out]; exact hk8), if_pos (by rw [HGX.out]; exact hk6)]; exact M0.out))
                      have RN : Hid (S0.length ≤ k + 1 ∧ (S1 ++ [((x, adk, cpk) : RE)]).length ≤ k + 1) := Lib.hid (by have := HN.out; (try simp only [List.length_append, List.length_singleton]); omega)
                      exact ⟨k + 1, a0, (some ⟨g1, 0, none⟩), S0, (S1 ++ [((x, adk, cpk) : RE)]), c0, d1, by omega, by go_num, rfl, by rw [List.length_append]; rfl, HB.out, R0, R1, A01, R0M, R1M, RN, RP0, RP1⟩
                    case measure => simp [intOf]; omega
                  · have d8 : (x.k != 8) = true := by simpa using hk8
                    by_cases hk6 : x.k = 6
                    · have d6 : (x.k != 6) = false := by rw [hk6]; rfl
                      go_wp2_with fail
                      go_roundw
                      case rel =>
                        have R0 : Hid (w3.ownsRow wE.heap.size 34 9 (.slice a0 S0.length c0) S0.length (clR S0)) := H0
                        have RP0 : Hid (PrsL w S0) := Lib.hid (P0.out)
                        have R1 : Hid (w3.ownsRow wE.heap.size 34 9 (.slice (some ⟨g1, 0, none⟩) (S1 ++ [((x, adk, cpk) : RE)]).length d1) (S1 ++ [((x, adk, cpk) : RE)]).length (clR (S1 ++ [((x, adk, cpk) : RE)]))) := Lib.hid (by rw [clR_snoc, List.length_append]; exact H1.out)
                        have RP1 : Hid (PrsL w (S1 ++ [((x, adk, cpk) : RE)])) := Lib.hid (P1.out.snoc hPk.out)
                        have R1M : Hid ((S1 ++ [((x, adk, cpk) : RE)]).map (·.1) = allL l (k + 1)) := Lib.hid (by rw [map_snoc, M1.out, allL, if_neg (by rw [HGX.out]; exact hk7), HGX.out])
                        have R0M : Hid (S0.map (·.1) = somL l (k + 1)) := Lib.hid (by rw [somL, if_neg (by rw [HGX.out]; exact hk7)]; first | (rw [if_pos (by rw [HGX.out]; exact hk8)]; exact M0.out) | (rw [if_neg (by rw [HGX.out]; exact hk8), if_pos (by rw [HGX.out]; exact hk6)]; exact M0.out))
                        have RN : Hid (S0.length ≤ k + 1 ∧ (S1 ++ [((x, adk, cpk) : RE)]).length ≤ k + 1) := Lib.hid (by have := HN.out; (try simp only [List.length_append, List.length_singleton]); omega)
                        exact ⟨k + 1, a0, (some ⟨g1, 0, none⟩), S0, (S1 ++ [((x, adk, cpk) : RE)]), c0, d1, by omega, by go_num, rfl, by rw [List.length_append]; rfl, HB.out, R0, R1, A01, R0M, R1M, RN, RP0, RP1⟩
                      case measure => simp [intOf]; omega
                    · have d6 : (x.k != 6) = true := by simpa using hk6
                      go_wp2_with (first | (at_builtin; go_loud (refine app_lit rfl _ _ 25 rfl wE.heap.size 34 n0 _ 9 88 Tryz.underlying25 hi hz0 hz1 hz2 rfl (by decide) (by decide) a0 S0.length c0 _ (by rfl) H0.out #[.int .i64 x.n, .int .i64 x.k, .int .i64 x.v, .int .i64 x.c, .int .i64 x.d, .int .i64 x.rk, .int .i64 x.up, .int .i64 x.dn, .slice adk x.cv.length cpk] rfl ?e1 (by rfl) HB.out.size (by have := HN.out; omega) ?e2)))
                      case e1 => simp [Value.oneCell']
                      case e2 =>
                        intro g0 d0 w4 ho hk hl hbt
                        obtain ⟨k1, m1⟩ := own_kept H1.out hk A01.out
                        obtain ⟨kx, mx⟩ := heap_kept hk HX.out (fun y hy e => X0.out _ y rfl hy e.symm)
                        have kb := hbt wE rfl HB.out
                        replace H0 := Lib.hid ho
                        replace H1 := Lib.hid k1
                        replace A01 := Lib.hid (m1)
                        replace HX := Lib.hid kx
                        replace HB := Lib.hid kb
                        have p2 := (kb.cell (p := ⟨w.heap.size, 2, none⟩) hzE).trans Y2.out
                        clear x0 x1 x2 x3 x4 x5 x6 x7 x8
                        have x0 := heapc HX.out (i := 0) (v := .int .i64 x.n) rfl
                        have x1 := heapc HX.out (i := 1) (v := .int .i64 x.k) rfl
                        have x2 := heapc HX.out (i := 2) (v := .int .i64 x.v) rfl
                        have x3 := heapc HX.out (i := 3) (v := .int .i64 x.c) rfl
                        have x4 := heapc HX.out (i := 4) (v := .int .i64 x.d) rfl
                        have x5 := heapc HX.out (i := 5) (v := .int .i64 x.rk) rfl
                        have x6 := heapc HX.out (i := 6) (v := .int .i64 x.up) rfl
                        have x7 := heapc HX.out (i := 7) (v := .int .i64 x.dn) rfl
                        have x8 := heapc HX.out (i := 8) (v := .slice adk x.cv.length cpk) rfl
                        clear ho hk hbt kx mx kb k1 m1
                        go_wp2_with fail
                        go_roundw
                        case rel =>
                          have R0 : Hid (w4.ownsRow wE.heap.size 34 9 (.slice (some ⟨g0, 0, none⟩) (S0 ++ [((x, adk, cpk) : RE)]).length d0) (S0 ++ [((x, adk, cpk) : RE)]).length (clR (S0 ++ [((x, adk, cpk) : RE)]))) := Lib.hid (by rw [clR_snoc, List.length_append]; exact H0.out)
                          have RP0 : Hid (PrsL w (S0 ++ [((x, adk, cpk) : RE)])) := Lib.hid (P0.out.snoc hPk.out)
                          have R1 : Hid (w4.ownsRow wE.heap.size 34 9 (.slice (some ⟨g1, 0, none⟩) (S1 ++ [((x, adk, cpk) : RE)]).length d1) (S1 ++ [((x, adk, cpk) : RE)]).length (clR (S1 ++ [((x, adk, cpk) : RE)]))) := Lib.hid (by rw [clR_snoc, List.length_append]; exact H1.out)
                          have RP1 : Hid (PrsL w (S1 ++ [((x, adk, cpk) : RE)])) := Lib.hid (P1.out.snoc hPk.out)
                          have R1M : Hid ((S1 ++ [((x, adk, cpk) : RE)]).map (·.1) = allL l (k + 1)) := Lib.hid (by rw [map_snoc, M1.out, allL, if_neg (by rw [HGX.out]; exact hk7), HGX.out])
                          have R0M : Hid ((S0 ++ [((x, adk, cpk) : RE)]).map (·.1) = somL l (k + 1)) := Lib.hid (by rw [map_snoc, M0.out, somL, if_neg (by rw [HGX.out]; exact hk7), if_neg (by rw [HGX.out]; exact hk8), if_neg (by rw [HGX.out]; exact hk6), HGX.out])
                          have RN : Hid ((S0 ++ [((x, adk, cpk) : RE)]).length ≤ k + 1 ∧ (S1 ++ [((x, adk, cpk) : RE)]).length ≤ k + 1) := Lib.hid (by have := HN.out; (try simp only [List.length_append, List.length_singleton]); omega)
                          exact ⟨k + 1, (some ⟨g0, 0, none⟩), (some ⟨g1, 0, none⟩), (S0 ++ [((x, adk, cpk) : RE)]), (S1 ++ [((x, adk, cpk) : RE)]), d0, d1, by omega, by go_num, by rw [List.length_append]; rfl, by rw [List.length_append]; rfl, HB.out, R0, R1, A01, R0M, R1M, RN, RP0, RP1⟩
                        case measure => simp [intOf]; omega
            · obtain rfl : k = l.length := by omega
              have HBR := Lib.hid (HBE.out.trans (hbr.mono HBE.out.size))
              obtain ⟨V1, hV1⟩ : ∃ V, hldV L js (allL l l.length) q0 q1 q2 M = V := ⟨_, rfl⟩
              have HO1 := Lib.hid (fun W (hW : Below wr.heap.size wr W) => holds_row L a js ca a1 S1 c1 _ q0 q1 q2 M V1 hV1 (all_good HSG.out) M1.out HQ0.out HQ1.out HQ2.out HMB.out _ W (HI.out.below (HBR.out.trans (hW.mono HBR.out.size))) (owns_belowI H1.out hW) (P1.out.below (HBR.out.trans (hW.mono HBR.out.size))))
              have HO0 := Lib.hid (fun W (hW : Below wr.heap.size wr W) => holds_row L a js ca a0 S0 c0 _ q0 q1 q2 M V1 ((hld_som (by have := top_or HQ2.out; omega) HSG.out).trans hV1) (som_good HSG.out) M0.out HQ0.out HQ1.out HQ2.out HMB.out _ W (HI.out.below (HBR.out.trans (hW.mono HBR.out.size))) (owns_belowI H0.out hW) (P0.out.below (HBR.out.trans (hW.mono HBR.out.size))))
              have p0 := cell_below Y0.out hbr
              have p1 := cell_below Y1.out hbr
              have p4 := cell_below Y4.out hbr
              have p5 := cell_below Y5.out hbr
              have p6 := cell_below Y6.out hbr
              have hbq : Below wr.heap.size wr wr := Below.refl _ _
              have n1 : (V1 == V1) = true := by simp
              clear hV1 H0 H1 A01 M0 M1 HN P0 P1 hbr hlt
              go_wp2_with (first | (go_at_call 21; (with_reducible refine Calls.mono (HO1.out _ hbq) ?_); rintro e w9 ⟨rfl, hb9⟩; replace hbq := hbq.trans (hb9.mono hbq.size); replace p0 := cell_below p0 hb9; replace p1 := cell_below p1 hb9; replace p2 := cell_below p2 hb9; replace p4 := cell_below p4 hb9; replace p5 := cell_below p5 hb9; replace p6 := cell_below p6 hb9; clear hb9) | (go_at_call 21; (with_reducible refine Calls.mono (HO0.out _ hbq) ?_); rintro e w9 ⟨rfl, hb9⟩; replace hbq := hbq.trans (hb9.mono hbq.size); replace p0 := cell_below p0 hb9; replace p1 := cell_below p1 hb9; replace p2 := cell_below p2 hb9; replace p4 := cell_below p4 hb9; replace p5 := cell_below p5 hb9; replace p6 := cell_below p6 hb9; clear hb9) | (go_at_call 12; refine (first_any _).mono ?_; rintro e w8 ⟨rfl, hb8⟩))
              go_ret
              exact ⟨rfl, HBR.out.trans ((hbq.trans (hb8.mono hbq.size)).mono HBR.out.size)⟩
end Go.Proofs.YtiagflackfkmnaaGreat
