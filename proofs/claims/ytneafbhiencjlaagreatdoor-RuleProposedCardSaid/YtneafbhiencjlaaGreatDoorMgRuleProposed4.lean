/-
  Parts between cuts, and stretches metre by metre: one list. By an AI agent.; held of a course of package rule. By an AI agent.; The order of a row of package rule. By an AI agent.; slices.SortFunc at the signs of a row. By an AI agent.; Steps of a region that draws its order, one by one: an operation whose guard is false; one that yields its value in every world at hand. By an AI agent.
-/
import Derived.Test.YtneafbhiencjlaaGreatDoorMgRuleProposed3
import Derived.Deep.RegionHeld3
import Derived.Deep.AppendLies
import Derived.Deep.DeepCutAuto
import Derived.StillTailTactics
import Derived.BigQuiet
import Derived.BigRegion
import Derived.Shelf.SlSortCmp.WholeK
import Derived.Lib.AppendIntMem
import Derived.Shelf.SlSortCmp.NoneTotal
import Derived.Lib.OwnBridge

namespace Go.Proofs.YtneafbhiencjlaaGreatDoor
set_option linter.unusedVariables false
set_option linter.unusedSimpArgs false
open Go.RowKit

theorem cmp_spec (d : Array Int) (hs : ∀ i j, i ≤ j → j < d.size → d[i]! ≤ d[j]!) : ∀ m, m ≤ d.size → (Lib.compactUpTo d m).Pairwise (· < ·) ∧ ∀ x, x ∈ Lib.compactUpTo d m ↔ ∃ j, j < m ∧ d[j]! = x
  | 0, _ => ⟨by simp [Lib.compactUpTo], fun x => by simp [Lib.compactUpTo]⟩
  | m + 1, hm => by
    obtain ⟨h1, h2⟩ := cmp_spec d hs m (by omega)
    rw [Lib.compactUpTo_succ]
    by_cases hk : Lib.keeps d m = true
    · rw [if_pos hk]
      refine ⟨List.pairwise_append.2 ⟨h1, by simp, fun x hx y hy => ?_⟩, fun x => ?_⟩
      · obtain ⟨j, hj, e⟩ := (h2 x).1 hx
        rw [List.mem_singleton.1 hy, ← e]
        by_cases h0 : m = 0
        · omega
        · have h3 := hs j (m - 1) (by omega) (by omega)
          have h4 := hs (m - 1) m (by omega) (by omega)
          have h5 : d[m]! ≠ d[m - 1]! := by
            intro e2
            unfold Lib.keeps at hk
            simp [h0, e2] at hk
          omega
      · rw [List.mem_append, h2, List.mem_singleton]
        constructor
        · rintro (⟨j, hj, e⟩ | e)
          · exact ⟨j, by omega, e⟩
          · exact ⟨m, by omega, e.symm⟩
        · rintro ⟨j, hj, e⟩
          by_cases hjm : j = m
          · right; rw [← e, hjm]
          · left; exact ⟨j, by omega, e⟩
    · rw [if_neg hk, List.append_nil]
      refine ⟨h1, fun x => ?_⟩
      rw [h2]
      have h0 : m ≠ 0 := by rintro rfl; exact hk (by simp [Lib.keeps])
      have h5 : d[m]! = d[m - 1]! := by
        by_cases e : d[m]! = d[m - 1]!
        · exact e
        · exact absurd (by unfold Lib.keeps; simp [h0, e]) hk
      constructor
      · rintro ⟨j, hj, e⟩; exact ⟨j, by omega, e⟩
      · rintro ⟨j, hj, e⟩
        by_cases hjm : j = m
        · exact ⟨m - 1, by omega, by rw [← e, hjm, h5]⟩
        · exact ⟨j, by omega, e⟩
theorem srt_pw (zs : List Int) : (srt zs).Pairwise (· ≤ ·) := by
  have := List.pairwise_mergeSort (le := fun x y : Int => decide (x ≤ y)) (fun a b c h1 h2 => by simp only [decide_eq_true_eq] at *; omega) (fun a b => by simp only [Bool.or_eq_true, decide_eq_true_eq]; omega) zs
  exact this.imp (fun h => by simpa using h)
theorem cmp_sorted {zs : List Int} (h : zs.Pairwise (· ≤ ·)) : (Lib.compact zs).Pairwise (· < ·) ∧ ∀ x, x ∈ Lib.compact zs ↔ x ∈ zs := by
  have hs : ∀ i j, i ≤ j → j < zs.toArray.size → zs.toArray[i]! ≤ zs.toArray[j]! := fun i j hij hj => by
    have hj' : j < zs.length := by simpa using hj
    rw [List.getElem!_toArray, List.getElem!_toArray, getElem!_pos zs i (by omega), getElem!_pos zs j hj']
    by_cases e : i = j
    · subst e; exact Int.le_refl _
    · exact (List.pairwise_iff_getElem.1 h) i j (by omega) hj' (by omega)
  obtain ⟨h1, h2⟩ := cmp_spec zs.toArray hs zs.length (by simp)
  refine ⟨h1, fun x => ?_⟩
  show x ∈ Lib.compactUpTo _ _ ↔ _
  rw [h2]
  constructor
  · rintro ⟨j, hj, e⟩
    rw [List.getElem!_toArray, getElem!_pos zs j hj] at e
    rw [← e]; exact List.getElem_mem hj
  · intro hx
    obtain ⟨j, hj, e⟩ := List.getElem_of_mem hx
    exact ⟨j, hj, by rw [List.getElem!_toArray, getElem!_pos zs j hj]; exact e⟩
theorem asc_pw (cuts : List Int) : (ascL cuts).Pairwise (· < ·) := (cmp_sorted (srt_pw cuts)).1
theorem asc_iff (cuts : List Int) (x : Int) : x ∈ ascL cuts ↔ x ∈ cuts := ((cmp_sorted (srt_pw cuts)).2 x).trans (srt_perm cuts).mem_iff

section
variable {V : Type} [DecidableEq V] [Inhabited V]
def gtV (l : List (Int × Int × V)) (i : Nat) : Int × Int × V := l.getD i (0, 0, default)
def prt1V (acc : List (Int × Int × V)) (x y : Int) (v : V) : List (Int × Int × V) := if 0 < acc.length ∧ (gtV acc (acc.length - 1)).2.2 = v then acc.set (acc.length - 1) ((gtV acc (acc.length - 1)).1, y, v) else acc ++ [(x, y, v)]
def prtV (z : List Int) (f : Int → V) : Nat → List (Int × Int × V)
  | 0 => []
  | k + 1 => if k = 0 then [] else prt1V (prtV z f k) (gi z (k - 1)) (gi z k) (f (gi z (k - 1)))
/-- One metre more, where some values are of no account. -/
def st1V (sk : V → Bool) (acc : List (Int × Int × V)) (m : Int) (v : V) : List (Int × Int × V) :=
  if sk v = true then acc else if 0 < acc.length ∧ (gtV acc (acc.length - 1)).2.1 = m ∧ (gtV acc (acc.length - 1)).2.2 = v then acc.set (acc.length - 1) ((gtV acc (acc.length - 1)).1, m + 1, v) else acc ++ [(m, m + 1, v)]
def strV (sk : V → Bool) (f : Int → V) : Nat → List (Int × Int × V)
  | 0 => []
  | n + 1 => st1V sk (strV sk f n) n (f n)
omit [DecidableEq V] in
theorem gtV_snoc (pre : List (Int × Int × V)) (q : Int × Int × V) : gtV (pre ++ [q]) ((pre ++ [q]).length - 1) = q := by
  unfold gtV; simp
theorem set_snoc {α : Type} (pre : List α) (q r : α) : (pre ++ [q]).set ((pre ++ [q]).length - 1) r = pre ++ [r] := by
  rw [List.length_append, List.length_singleton, Nat.add_sub_cancel, List.set_append_right _ _ (Nat.le_refl _)]
  simp
theorem prt1V_snoc (pre : List (Int × Int × V)) (x y0 a b : Int) (u v : V) : prt1V (pre ++ [(x, y0, u)]) a b v = if u = v then pre ++ [(x, b, v)] else pre ++ [(x, y0, u)] ++ [(a, b, v)] := by
  unfold prt1V
  rw [gtV_snoc, set_snoc]
  by_cases h : u = v
  · rw [if_pos ⟨by simp, h⟩, if_pos h]
  · rw [if_neg (fun hh => h hh.2), if_neg h]
theorem strV_skip {sk : V → Bool} {f : Int → V} {v : V} (hv : sk v = true) (a : Nat) : ∀ n, (∀ i : Nat, a ≤ i → i < a + n → f i = v) → strV sk f (a + n) = strV sk f a
  | 0, _ => rfl
  | n + 1, h => by
    rw [← Nat.add_assoc, strV, h (a + n) (by omega) (by omega)]
    unfold st1V
    rw [if_pos hv]
    exact strV_skip hv a n (fun i h1 h2 => h i h1 (by omega))
theorem strV_more {sk : V → Bool} {f : Int → V} {v : V} (hv : sk v = false) (a : Nat) (pre : List (Int × Int × V)) (x : Int) (hS : strV sk f a = pre ++ [(x, (a : Int), v)]) : ∀ n, (∀ i : Nat, a ≤ i → i < a + n → f i = v) → strV sk f (a + n) = pre ++ [(x, ((a + n : Nat) : Int), v)]
  | 0, _ => hS
  | n + 1, h => by
    have ih := strV_more hv a pre x hS n (fun i h1 h2 => h i h1 (by omega))
    rw [← Nat.add_assoc, strV, h (a + n) (by omega) (by omega), ih]
    unfold st1V
    rw [if_neg (by rw [hv]; simp), gtV_snoc, set_snoc, if_pos ⟨by simp, rfl, rfl⟩]
    simp
theorem strV_new {sk : V → Bool} {f : Int → V} {v : V} (hv : sk v = false) (a : Nat) (hS : ¬ (0 < (strV sk f a).length ∧ (gtV (strV sk f a) ((strV sk f a).length - 1)).2.1 = a ∧ (gtV (strV sk f a) ((strV sk f a).length - 1)).2.2 = v)) (n : Nat) (h : ∀ i : Nat, a ≤ i → i < a + (n + 1) → f i = v) : strV sk f (a + (n + 1)) = strV sk f a ++ [((a : Int), ((a + (n + 1) : Nat) : Int), v)] := by
  have h1 : strV sk f (a + 1) = strV sk f a ++ [((a : Int), ((a + 1 : Nat) : Int), v)] := by
    rw [strV, h a (Nat.le_refl _) (by omega)]
    unfold st1V
    rw [if_neg (by rw [hv]; simp), if_neg hS]
    simp
  have h2 := strV_more hv (a + 1) (strV sk f a) (a : Int) h1 n (fun i h1 h2 => h i (by omega) (by omega))
  rw [show a + 1 + n = a + (n + 1) by omega] at h2
  exact h2
def fltV (sk : V → Bool) (acc : List (Int × Int × V)) : List (Int × Int × V) := acc.filter fun p => !(sk p.2.2)
omit [DecidableEq V] [Inhabited V] in
theorem fltV_snoc (sk : V → Bool) (pre : List (Int × Int × V)) (q : Int × Int × V) : fltV sk (pre ++ [q]) = fltV sk pre ++ if sk q.2.2 = true then [] else [q] := by
  unfold fltV
  rw [List.filter_append]
  cases h : sk q.2.2 <;> simp [List.filter_cons, h]
/-- What the two ways agree on, up to a cut. -/
def InvV (sk : V → Bool) (f : Int → V) (acc : List (Int × Int × V)) (a : Nat) : Prop :=
  strV sk f a = fltV sk acc ∧ ((acc = [] ∧ a = 0) ∨ ∃ pre x u, acc = pre ++ [(x, (a : Int), u)] ∧ x < (a : Int) ∧ ∀ p, p ∈ pre → p.2.1 ≤ x)
theorem invV_step {sk : V → Bool} {f : Int → V} {acc : List (Int × Int × V)} {a b : Nat} (hab : a < b) (hc : ∀ i : Nat, a ≤ i → i < b → f i = f a) (h : InvV sk f acc a) : InvV sk f (prt1V acc a b (f a)) b := by
  obtain ⟨n, rfl⟩ : ∃ n, b = a + (n + 1) := ⟨b - a - 1, by omega⟩
  generalize f a = v at *
  obtain ⟨h1, h2⟩ := h
  rcases h2 with ⟨rfl, rfl⟩ | ⟨pre, x, u, rfl, hx, hp⟩
  · have e : prt1V ([] : List (Int × Int × V)) ((0 : Nat) : Int) ((0 + (n + 1) : Nat) : Int) v = [] ++ [(((0 : Nat) : Int), ((0 + (n + 1) : Nat) : Int), v)] := by unfold prt1V; simp
    rw [e]
    refine ⟨?_, .inr ⟨[], _, v, rfl, by omega, fun p hp => by cases hp⟩⟩
    rw [fltV_snoc]
    cases hv : sk v with
    | true => rw [strV_skip hv 0 (n + 1) hc, if_pos rfl]; rfl
    | false => rw [strV_new hv 0 (fun hh => absurd hh.1 (by simp [strV])) n hc, if_neg (by simp)]; rfl
  · rw [prt1V_snoc]
    rw [fltV_snoc] at h1
    by_cases huv : u = v
    · subst huv
      rw [if_pos rfl]
      refine ⟨?_, .inr ⟨pre, x, u, rfl, by omega, hp⟩⟩
      rw [fltV_snoc]
      cases hv : sk u with
      | true =>
        rw [if_pos hv] at h1
        rw [strV_skip hv a (n + 1) hc, h1, if_pos rfl]
      | false =>
        rw [if_neg (by rw [hv]; simp)] at h1
        rw [strV_more hv a _ x h1 (n + 1) hc, if_neg (by simp)]
    · rw [if_neg huv]
      refine ⟨?_, .inr ⟨pre ++ [(x, (a : Int), u)], a, v, rfl, by omega, fun p hpm => ?_⟩⟩
      · rw [fltV_snoc, fltV_snoc, ← h1]
        cases hv : sk v with
        | true => rw [strV_skip hv a (n + 1) hc, if_pos rfl, List.append_nil]
        | false =>
          rw [strV_new hv a ?_ n hc, if_neg (by simp)]
          rw [h1]
          rintro ⟨g1, g2, g3⟩
          cases hu : sk u with
          | false =>
            rw [hu, if_neg (by simp), gtV_snoc] at g3
            exact huv g3
          | true =>
            rw [hu, if_pos rfl, List.append_nil] at g1 g2
            have hm : gtV (fltV sk pre) ((fltV sk pre).length - 1) ∈ fltV sk pre := by
              unfold gtV
              rw [List.getD_eq_getElem?_getD, List.getElem?_eq_getElem (by omega)]
              exact List.getElem_mem _
            have := hp _ (List.mem_filter.1 hm).1
            omega
      · rw [List.mem_append, List.mem_singleton] at hpm
        rcases hpm with hpm | rfl
        · have := hp p hpm; omega
        · exact Int.le_refl _
theorem parts_str {sk : V → Bool} {f : Int → V} {z : List Int} (hz : z.Pairwise (· < ·)) (h0 : 0 < z.length → gi z 0 = 0) (hc : ∀ k, k + 1 < z.length → ∀ i : Int, gi z k ≤ i → i < gi z (k + 1) → f i = f (gi z k)) : ∀ k, k < z.length → InvV sk f (prtV z f (k + 1)) (gi z k).toNat
  | 0, hk => by
    rw [h0 hk]
    refine ⟨?_, .inl ⟨by rw [prtV, if_pos rfl], rfl⟩⟩
    rw [prtV, if_pos rfl]; rfl
  | k + 1, hk => by
    have ih := parts_str (sk := sk) hz h0 hc k (by omega)
    have hlt : ∀ i j, i < j → j < z.length → gi z i < gi z j := fun i j hij hj => by
      unfold gi
      rw [List.getD_eq_getElem?_getD, List.getD_eq_getElem?_getD, List.getElem?_eq_getElem (by omega), List.getElem?_eq_getElem hj]
      exact (List.pairwise_iff_getElem.1 hz) i j (by omega) hj hij
    have hpos : 0 ≤ gi z k := by
      by_cases e : k = 0
      · subst e; rw [h0 (by omega)]; exact Int.le_refl _
      · have := hlt 0 k (by omega) (by omega); rw [h0 (by omega)] at this; omega
    have hlk := hlt k (k + 1) (by omega) hk
    have e1 : ((gi z k).toNat : Int) = gi z k := Int.toNat_of_nonneg hpos
    have e2 : ((gi z (k + 1)).toNat : Int) = gi z (k + 1) := Int.toNat_of_nonneg (by omega)
    have st := invV_step (b := (gi z (k + 1)).toNat) (by omega) (fun i h1 h2 => by
      rw [e1]; exact hc k hk i (by omega) (by omega)) ih
    rw [e1, e2] at st
    rw [prtV, if_neg (by omega)]
    exact st
/-- Parts between cuts, those of no account left out, are the stretches metre by metre. -/
theorem parts_all {sk : V → Bool} {f : Int → V} {z : List Int} {L : Int} (hz : z.Pairwise (· < ·)) (h0 : gi z 0 = 0) (hL : gi z (z.length - 1) = L) (hne : 0 < z.length) (hc : ∀ k, k + 1 < z.length → ∀ i : Int, gi z k ≤ i → i < gi z (k + 1) → f i = f (gi z k)) : fltV sk (prtV z f z.length) = strV sk f L.toNat := by
  have := (parts_str (sk := sk) hz (fun _ => h0) hc (z.length - 1) (by omega)).1
  rw [hL, show z.length - 1 + 1 = z.length by omega] at this
  exact this.symm
end
end Go.Proofs.YtneafbhiencjlaaGreatDoor

namespace Go.Proofs.YtneafbhiencjlaaGreatDoor
set_option linter.unusedVariables false
set_option linter.unusedSimpArgs false
open Go.RowKit

theorem heldInfo : (Tryz.prog.info? 56).map (fun i => (i.zero, i.size, i.bytes)) = some (some (.agg #[.int .i64 0, .int .i64 0, .int .i64 0]), 3, 24) := by kernel_rfl
/-- The stretches with a value. -/
def heldL (P : List Tri) : List Tri := P.filter fun p => p.2.2 != 0
theorem heldL_len {P : List Tri} {k : Nat} (h : P.length ≤ k) : (heldL P).length ≤ k := Nat.le_trans (List.length_filter_le _ _) h
theorem heldL_succ (P : List Tri) {k : Nat} (h : k < P.length) : heldL (P.take (k + 1)) = if (gt3 P k).2.2 = 0 then heldL (P.take k) else heldL (P.take k) ++ [((gt3 P k).1, (gt3 P k).2.1, (gt3 P k).2.2)] := by
  have e : gt3 P k = P[k] := by unfold gt3; simp [h]
  rw [e]
  unfold heldL
  rw [List.take_add_one, List.getElem?_eq_getElem h, List.filter_append]
  by_cases hv : P[k].2.2 = 0
  · rw [if_pos hv]; simp [hv]
  · rw [if_neg hv]; simp [hv]
/-- What held returns. -/
def HldE (w : World) (M : List Tri) (e : Ending) (w' : World) : Prop := ∃ b c, e = .returned (.slice b M.length c) ∧ w'.ownsRow w.heap.size 56 3 (.slice b M.length c) M.length (cl3 M) ∧ Below w.heap.size w w'
set_option maxRecDepth 100000 in
set_option maxHeartbeats 4000000 in
theorem heldT_r (a : Option Addr) (cuts : List Int) (ca : Nat) (lb : Array Value) (f : Int → Int) (w : World) (hA : IntsS w a cuts) (hne : cuts ≠ []) (hn : cuts.length ≤ 1000000)
    (hf : ∀ m W, m ∈ cuts → Below w.heap.size w W → Calls Tryz.prog 65 (#[.int .i64 m] ++ lb) W fun e w' => e = .returned (.int .i64 (f m)) ∧ Below W.heap.size W w') :
    Calls Tryz.prog 57 #[.agg #[.func (.func 65) #[] lb, .slice a cuts.length ca]] w (HldE w (heldL (prtK (ascL cuts) f (ascL cuts).length))) := by
  have HP := Lib.hid (fun W (hW : Below w.heap.size w W) => partsT_r a cuts ca lb f W (hA.below hW) hne hn (fun m W' hm hb => hf m W' hm (below_onR hW hb)))
  have HLen : Hid ((prtK (ascL cuts) f (ascL cuts).length).length ≤ cuts.length) := Lib.hid (Nat.le_trans (prtK_len _ _ _) (asc_len cuts))
  obtain ⟨n0, hi, hz0, hz1, hz2⟩ := info_parts heldInfo
  have HU : Hid (∀ W e w', PrtE W (ascL cuts) f e w' → ∃ b c, e = .returned (.slice b (prtK (ascL cuts) f (ascL cuts).length).length c) ∧ w'.ownsRow W.heap.size 140 3 (.slice b (prtK (ascL cuts) f (ascL cuts).length).length c) (prtK (ascL cuts) f (ascL cuts).length).length (cl3 (prtK (ascL cuts) f (ascL cuts).length)) ∧ Below W.heap.size W w') := Lib.hid fun W e w' h => h
  clear hf hA
  go_enter Tryz.func57, Tryz.ntmps57
  go_wp2_with (go_at_call 95; refine (HP.out _ ((Below.refl w.heap.size w).alloc (Nat.le_refl _) _)).mono ?_; rintro e w7 hw7; obtain ⟨b, c, rfl, hr7, hb7⟩ := HU.out _ _ _ hw7)
  generalize prtK (ascL cuts) f (ascL cuts).length = P at *
  have hbo : Below w.heap.size w w7 := below_onR ((Below.refl w.heap.size w).alloc (Nat.le_refl _) _) hb7
  have HOwn := Lib.hid hr7
  have HCz : Hid (∀ k, k < P.length → ∃ g, b = some ⟨g, 0, none⟩ ∧ w7.cell? ⟨g, k * 3, none⟩ = some (.int .i64 (gt3 P k).1) ∧ w7.cell? ⟨g, k * 3 + 1, none⟩ = some (.int .i64 (gt3 P k).2.1) ∧ w7.cell? ⟨g, k * 3 + 2, none⟩ = some (.int .i64 (gt3 P k).2.2)) := Lib.hid fun k hk => by
    have h := HOwn.out
    rcases h.2 with ⟨h1, h2⟩ | ⟨g2, c2, cur, h1, _⟩
    · omega
    · obtain ⟨rfl, rfl⟩ : b = some ⟨g2, 0, none⟩ ∧ c = c2 := by simpa using h1
      have hh := cl3_c P k hk
      refine ⟨g2, rfl, ?_, ?_, ?_⟩
      · rw [World.ownsRow.cellAt h (k * 3) (by omega)]; exact hh.1
      · rw [World.ownsRow.cellAt h (k * 3 + 1) (by omega)]; exact hh.2.1
      · rw [World.ownsRow.cellAt h (k * 3 + 2) (by omega)]; exact hh.2.2
  clear HOwn hr7 hb7 hw7 HU HP
  obtain ⟨wo, rfl⟩ : ∃ wo : World, wo = w7 := ⟨_, rfl⟩
  have hPl := HLen.out
  go_wp2_with fail
  go_loopw [3, 12] (fun q i wr => ∃ k : Nat, k ≤ P.length ∧ i = .int .i64 k ∧ (∃ a c, q = .slice a (heldL (P.take k)).length c) ∧ Hid (wr.ownsRow wo.heap.size 56 3 q (heldL (P.take k)).length (cl3 (heldL (P.take k)))) ∧ Below wo.heap.size wo wr) (fun _ i _ => P.length - (intOf i).toNat)
  case atStart => exact ⟨0, Nat.zero_le _, rfl, ⟨none, 0, rfl⟩, Lib.hid ⟨rfl, .inl ⟨rfl, rfl⟩⟩, Below.refl _ _⟩
  case round =>
    obtain ⟨k, hk, rfl, ⟨av, cv, rfl⟩, HRow, hbr⟩ := hrel
    have hMl : (heldL (P.take k)).length ≤ k := heldL_len (by simp; omega)
    by_cases hlt : k < P.length
    · obtain ⟨g, rfl, c0, c1, c2⟩ := HCz.out k hlt
      have c0 := cell_below c0 hbr
      have c1 := cell_below c1 hbr
      have c2 := cell_below c2 hbr
      have HN : Hid (heldL (P.take (k + 1)) = if (gt3 P k).2.2 = 0 then heldL (P.take k) else heldL (P.take k) ++ [((gt3 P k).1, (gt3 P k).2.1, (gt3 P k).2.2)]) := Lib.hid (heldL_succ P hlt)
      clear HCz
      generalize (gt3 P k).1 = x at *
      generalize (gt3 P k).2.1 = y at *
      generalize (gt3 P k).2.2 = v at *
      obtain ⟨M, hM⟩ : ∃ M, heldL (P.take k) = M := ⟨_, rfl⟩
      rw [hM] at HN HRow hMl ⊢
      clear hM
      have hk64 : (k : Int) < (P.length : Int) := by omega
      have hsz := hbr.size
      have hbA : Below wo.heap.size wo (wr.alloc (.cells #[.int .i64 x, .int .i64 y, .int .i64 v] 140)) := hbr.alloc hsz _
      have HRow := Lib.hid (HRow.out.alloc (.cells #[.int .i64 x, .int .i64 y, .int .i64 v] 140))
      have s0 : (wr.alloc (.cells #[.int .i64 x, .int .i64 y, .int .i64 v] 140)).cell? ⟨wr.heap.size, 0, none⟩ = some (.int .i64 x) := by simp [go_sem]
      have s1 : (wr.alloc (.cells #[.int .i64 x, .int .i64 y, .int .i64 v] 140)).cell? ⟨wr.heap.size, 1, none⟩ = some (.int .i64 y) := by simp [go_sem]
      have s2 : (wr.alloc (.cells #[.int .i64 x, .int .i64 y, .int .i64 v] 140)).cell? ⟨wr.heap.size, 2, none⟩ = some (.int .i64 v) := by simp [go_sem]
      by_cases hv : v = 0
      · have hN := HN.out
        rw [if_pos hv] at hN
        have HNn := Lib.hid hN
        clear hN HN s0 s1 s2
        subst hv
        go_wp2_with fail
        go_roundw
        case rel => exact ⟨k + 1, by omega, by go_num, ⟨_, cv, by rw [HNn.out]⟩, Lib.hid (by rw [HNn.out]; exact HRow.out), hbA⟩
        case measure => simp [intOf]; omega
      · have hN := HN.out
        rw [if_neg hv] at hN
        have HAP : Hid (M.length + 1 = (heldL (P.take (k + 1))).length ∧ cl3 M ++ [.int .i64 x, .int .i64 y, .int .i64 v] = cl3 (heldL (P.take (k + 1)))) := Lib.hid (by rw [hN, cl3_app]; exact ⟨by simp, rfl⟩)
        clear hN HN
        have hv2 : (v == 0) = false := beq_false_of_ne hv
        obtain ⟨wA, hwA⟩ : ∃ wA, wr.alloc (.cells #[.int .i64 x, .int .i64 y, .int .i64 v] 140) = wA := ⟨_, rfl⟩
        rw [hwA] at s0 s1 s2 HRow hbA
        have hown := Lib.hid (HRow.out.alloc (.cells #[.int .i64 x, .int .i64 y, .int .i64 v] 56))
        have hbs := hbA.size
        go_wp2_with (first | (at_builtin; go_loud (refine wpList_append_lies _ rfl _ _ 52 rfl wo.heap.size 56 n0 _ 3 24 Tryz.underlying52 hi hz0 hz1 hz2 rfl (by decide) (.slice _ M.length cv) M.length _ (by rfl) hown.out ⟨wA.heap.size, 0, none⟩ 1 1 [.int .i64 x, .int .i64 y, .int .i64 v] (by rfl) (by rfl) ?d1 ?d2 (by decide) ?d3 ?d4 ?d5 _ rfl ?_)))
        case d1 =>
          refine World.news_of_block (cs := #[.int .i64 x, .int .i64 y, .int .i64 v]) (t := 56) (fr := (0, 0)) ?_
          exact heap_alloc_new _ _
        case d2 => simp [Value.oneCell']
        case d3 => unfold maxLen; omega
        case d4 => omega
        case d5 => first | (simp; omega) | simp | omega
        intro g6 c6 w6 hown6 hgrow6 hat6 hlt6
        have hb6 : Below wo.heap.size wo w6 := ((hbA.alloc hbs _).grown hgrow6 (by first | (simp; omega) | simp | omega) (fun z hz => owns_blockI hown.out hz))

        go_wp2_with fail
        go_roundw
        case rel => exact ⟨k + 1, by omega, by go_num, ⟨_, c6, by rw [← HAP.out.1]⟩, Lib.hid (by rw [← HAP.out.1, ← HAP.out.2]; exact hown6), hb6⟩
        case measure => simp [intOf]; omega
    · obtain rfl : k = P.length := by omega
      have hbw := hbo.trans (hbr.mono hbo.size)
      have HEnd : Hid (HldE w (heldL P) (.returned (.slice av (heldL (P.take P.length)).length cv)) wr) := Lib.hid ⟨av, cv, by rw [List.take_length], by have := owns_baseI HRow.out hbo.size; rwa [List.take_length] at this, hbw⟩
      clear HRow
      go_wp2_with fail
      go_ret
      exact HEnd.out
end Go.Proofs.YtneafbhiencjlaaGreatDoor

namespace Go.Proofs.YtneafbhiencjlaaGreatDoor
set_option linter.unusedVariables false
set_option linter.unusedSimpArgs false
open Go.RowKit

/-- Draws and blocks behind a world. -/
def GrownW (W w : World) : Prop := ∃ q os, w = Sort.grow (W.drewN q) os
theorem GrownW.refl (W : World) : GrownW W W := ⟨0, #[], by rw [grow_none]; rfl⟩
theorem GrownW.trans {A B C : World} (h1 : GrownW A B) (h2 : GrownW B C) : GrownW A C := by
  obtain ⟨q, os, rfl⟩ := h1
  obtain ⟨q', os', rfl⟩ := h2
  exact ⟨q + q', os ++ os', by simp [Sort.grow, World.drewN, Array.append_assoc, Nat.add_assoc]⟩
theorem GrownW.one (W : World) (o : Obj) : GrownW W (W.alloc o) := ⟨0, #[o], by rw [Sort.alloc_eq_grow]; rfl⟩
theorem GrownW.alloc {A B : World} (h : GrownW A B) (o : Obj) : GrownW A (B.alloc o) := h.trans (.one B o)
theorem GrownW.drew {A B : World} (h : GrownW A B) : GrownW A B.drew := h.trans ⟨1, #[], by rw [grow_none]; rfl⟩
theorem GrownW.below {A B : World} (h : GrownW A B) : Below A.heap.size A B := by
  obtain ⟨q, os, rfl⟩ := h
  exact Lib.below_grow _ _ (Nat.le_refl _) q os
theorem GrownW.of_eq {A B : World} {o : Obj} (h : B = A.alloc o) : GrownW A B := by subst h; exact .one A o
theorem isNaN_r (a : Int) (w : World) : Calls Tryz.prog 121 #[.int .i64 a] w fun e w' => e = .returned (.bool false) ∧ w' = w := by
  go_enter Tryz.func121, Tryz.ntmps121
  go_wp2
  go_ret
  exact ⟨rfl, rfl⟩
theorem compare_r (a b : Int) (w : World) : Calls Tryz.prog 86 #[.int .i64 a, .int .i64 b] w fun e w' => e = .returned (.int .i64 (Lib.compareInt a b)) ∧ w' = w := by
  unfold Lib.compareInt
  by_cases h1 : a < b
  · rw [if_pos h1]
    go_enter Tryz.func86, Tryz.ntmps86
    go_wp2_with (go_at_call 121; refine (isNaN_r _ _).mono ?_; rintro e w' ⟨rfl, rfl⟩)
    go_ret
    exact ⟨rfl, rfl⟩
  · by_cases h2 : b < a
    · rw [if_neg h1, if_pos h2]
      go_enter Tryz.func86, Tryz.ntmps86
      go_wp2_with (go_at_call 121; refine (isNaN_r _ _).mono ?_; rintro e w' ⟨rfl, rfl⟩)
      go_ret
      exact ⟨rfl, rfl⟩
    · rw [if_neg h1, if_neg (by omega)]
      go_enter Tryz.func86, Tryz.ntmps86
      go_wp2_with (go_at_call 121; refine (isNaN_r _ _).mono ?_; rintro e w' ⟨rfl, rfl⟩)
      go_ret
      exact ⟨rfl, rfl⟩
theorem row1_r (p : Pst) (ad : Option Addr) (cp : Nat) (w : World) :
    Calls Tryz.prog 78 #[.agg #[.int .i64 p.s.n, .int .i64 p.s.k, .int .i64 p.s.v, .int .i64 p.s.c, .int .i64 p.s.d, .int .i64 p.s.rk, .int .i64 p.s.up, .int .i64 p.s.dn, .slice ad p.s.cv.length cp, .int .i64 p.d, .int .i64 p.u, .bool p.b]] w fun e w' => e = .returned (.int .i64 p.d) ∧ w' = w.alloc (.cells #[.int .i64 p.s.n, .int .i64 p.s.k, .int .i64 p.s.v, .int .i64 p.s.c, .int .i64 p.s.d, .int .i64 p.s.rk, .int .i64 p.s.up, .int .i64 p.s.dn, .slice ad p.s.cv.length cp, .int .i64 p.d, .int .i64 p.u, .bool p.b] 110) := by
  go_enter Tryz.func78, Tryz.ntmps78
  go_wp2_with fail
  go_ret
  exact ⟨rfl, rfl⟩
theorem row2_r (p : Pst) (ad : Option Addr) (cp : Nat) (w : World) :
    Calls Tryz.prog 79 #[.agg #[.int .i64 p.s.n, .int .i64 p.s.k, .int .i64 p.s.v, .int .i64 p.s.c, .int .i64 p.s.d, .int .i64 p.s.rk, .int .i64 p.s.up, .int .i64 p.s.dn, .slice ad p.s.cv.length cp, .int .i64 p.d, .int .i64 p.u, .bool p.b]] w fun e w' => e = .returned (.int .i64 p.s.rk) ∧ w' = w.alloc (.cells #[.int .i64 p.s.n, .int .i64 p.s.k, .int .i64 p.s.v, .int .i64 p.s.c, .int .i64 p.s.d, .int .i64 p.s.rk, .int .i64 p.s.up, .int .i64 p.s.dn, .slice ad p.s.cv.length cp, .int .i64 p.d, .int .i64 p.u, .bool p.b] 110) := by
  go_enter Tryz.func79, Tryz.ntmps79
  go_wp2_with fail
  go_ret
  exact ⟨rfl, rfl⟩
theorem row3_r (p : Pst) (ad : Option Addr) (cp : Nat) (w : World) :
    Calls Tryz.prog 80 #[.agg #[.int .i64 p.s.n, .int .i64 p.s.k, .int .i64 p.s.v, .int .i64 p.s.c, .int .i64 p.s.d, .int .i64 p.s.rk, .int .i64 p.s.up, .int .i64 p.s.dn, .slice ad p.s.cv.length cp, .int .i64 p.d, .int .i64 p.u, .bool p.b]] w fun e w' => e = .returned (.int .i64 p.s.n) ∧ w' = w.alloc (.cells #[.int .i64 p.s.n, .int .i64 p.s.k, .int .i64 p.s.v, .int .i64 p.s.c, .int .i64 p.s.d, .int .i64 p.s.rk, .int .i64 p.s.up, .int .i64 p.s.dn, .slice ad p.s.cv.length cp, .int .i64 p.d, .int .i64 p.u, .bool p.b] 110) := by
  go_enter Tryz.func80, Tryz.ntmps80
  go_wp2_with fail
  go_ret
  exact ⟨rfl, rfl⟩
/-- Which of two signs comes first. -/
def cmpP (p q : Pst) : Int := if Lib.compareInt p.d q.d ≠ 0 then Lib.compareInt p.d q.d else if Lib.compareInt p.s.rk q.s.rk ≠ 0 then Lib.compareInt p.s.rk q.s.rk else Lib.compareInt p.s.n q.s.n
set_option maxRecDepth 100000 in
set_option maxHeartbeats 4000000 in
theorem by_r (p q : Pst) (ad aq : Option Addr) (cp cq B Fb : Nat) (w : World) (cB : w.cell? ⟨B, 0, none⟩ = some (.slice (some ⟨Fb, 0, none⟩) 3 3))
    (f0 : w.cell? ⟨Fb, 0, none⟩ = some (.func (.func 78) #[] #[])) (f1 : w.cell? ⟨Fb, 1, none⟩ = some (.func (.func 79) #[] #[])) (f2 : w.cell? ⟨Fb, 2, none⟩ = some (.func (.func 80) #[] #[])) :
    Calls Tryz.prog 108 #[.agg #[.int .i64 p.s.n, .int .i64 p.s.k, .int .i64 p.s.v, .int .i64 p.s.c, .int .i64 p.s.d, .int .i64 p.s.rk, .int .i64 p.s.up, .int .i64 p.s.dn, .slice ad p.s.cv.length cp, .int .i64 p.d, .int .i64 p.u, .bool p.b], .agg #[.int .i64 q.s.n, .int .i64 q.s.k, .int .i64 q.s.v, .int .i64 q.s.c, .int .i64 q.s.d, .int .i64 q.s.rk, .int .i64 q.s.up, .int .i64 q.s.dn, .slice aq q.s.cv.length cq, .int .i64 q.d, .int .i64 q.u, .bool q.b], .pointer (some ⟨B, 0, none⟩)] w fun e w' => e = .returned (.int .i64 (cmpP p q)) ∧ GrownW w w' := by
  have HC0 := Lib.hid (fun W => compare_r p.d q.d W)
  have HC1 := Lib.hid (fun W => compare_r p.s.rk q.s.rk W)
  have HC2 := Lib.hid (fun W => compare_r p.s.n q.s.n W)
  have HV : Hid (cmpP p q = if Lib.compareInt p.d q.d ≠ 0 then Lib.compareInt p.d q.d else if Lib.compareInt p.s.rk q.s.rk ≠ 0 then Lib.compareInt p.s.rk q.s.rk else Lib.compareInt p.s.n q.s.n) := Lib.hid rfl
  generalize Lib.compareInt p.d q.d = r0 at *
  generalize Lib.compareInt p.s.rk q.s.rk = r1 at *
  generalize Lib.compareInt p.s.n q.s.n = r2 at *
  have kk : ∀ (o : Nat) (v : Value) (b : Nat), w.cell? ⟨b, o, none⟩ = some v → ∀ c t c' t', ((w.alloc (.cells c t)).alloc (.cells c' t')).cell? ⟨b, o, none⟩ = some v := fun o v b h c t c' t' => cell_below h (((GrownW.refl w).alloc _).alloc _).below
  have kB := kk _ _ _ cB
  clear kk
  go_enter Tryz.func108, Tryz.ntmps108
  go_wp2_with fail
  obtain ⟨wB, hwB⟩ : ∃ wB, (w.alloc (.cells #[.int .i64 p.s.n, .int .i64 p.s.k, .int .i64 p.s.v, .int .i64 p.s.c, .int .i64 p.s.d, .int .i64 p.s.rk, .int .i64 p.s.up, .int .i64 p.s.dn, .slice ad p.s.cv.length cp, .int .i64 p.d, .int .i64 p.u, .bool p.b] 110)).alloc (.cells #[.int .i64 q.s.n, .int .i64 q.s.k, .int .i64 q.s.v, .int .i64 q.s.c, .int .i64 q.s.d, .int .i64 q.s.rk, .int .i64 q.s.up, .int .i64 q.s.dn, .slice aq q.s.cv.length cq, .int .i64 q.d, .int .i64 q.u, .bool q.b] 110) = wB := ⟨_, rfl⟩
  have hG : GrownW w wB := by rw [← hwB]; exact ((GrownW.refl w).alloc _).alloc _
  have hzB : w.heap.size + 1 < wB.heap.size := by rw [← hwB]; simp
  have cB := cell_below cB hG.below
  have f0 := cell_below f0 hG.below
  have f1 := cell_below f1 hG.below
  have f2 := cell_below f2 hG.below
  have s0 : wB.cell? ⟨w.heap.size, 0, none⟩ = some (.int .i64 p.s.n) := by rw [← hwB]; simp [go_sem]
  have s1 : wB.cell? ⟨w.heap.size, 1, none⟩ = some (.int .i64 p.s.k) := by rw [← hwB]; simp [go_sem]
  have s2 : wB.cell? ⟨w.heap.size, 2, none⟩ = some (.int .i64 p.s.v) := by rw [← hwB]; simp [go_sem]
  have s3 : wB.cell? ⟨w.heap.size, 3, none⟩ = some (.int .i64 p.s.c) := by rw [← hwB]; simp [go_sem]
  have s4 : wB.cell? ⟨w.heap.size, 4, none⟩ = some (.int .i64 p.s.d) := by rw [← hwB]; simp [go_sem]
  have s5 : wB.cell? ⟨w.heap.size, 5, none⟩ = some (.int .i64 p.s.rk) := by rw [← hwB]; simp [go_sem]
  have s6 : wB.cell? ⟨w.heap.size, 6, none⟩ = some (.int .i64 p.s.up) := by rw [← hwB]; simp [go_sem]
  have s7 : wB.cell? ⟨w.heap.size, 7, none⟩ = some (.int .i64 p.s.dn) := by rw [← hwB]; simp [go_sem]
  have s8 : wB.cell? ⟨w.heap.size, 8, none⟩ = some (.slice ad p.s.cv.length cp) := by rw [← hwB]; simp [go_sem]
  have s9 : wB.cell? ⟨w.heap.size, 9, none⟩ = some (.int .i64 p.d) := by rw [← hwB]; simp [go_sem]
  have s10 : wB.cell? ⟨w.heap.size, 10, none⟩ = some (.int .i64 p.u) := by rw [← hwB]; simp [go_sem]
  have s11 : wB.cell? ⟨w.heap.size, 11, none⟩ = some (.bool p.b) := by rw [← hwB]; simp [go_sem]
  have s12 : wB.cell? ⟨w.heap.size + 1, 0, none⟩ = some (.int .i64 q.s.n) := by rw [← hwB]; simp [go_sem]
  have s13 : wB.cell? ⟨w.heap.size + 1, 1, none⟩ = some (.int .i64 q.s.k) := by rw [← hwB]; simp [go_sem]
  have s14 : wB.cell? ⟨w.heap.size + 1, 2, none⟩ = some (.int .i64 q.s.v) := by rw [← hwB]; simp [go_sem]
  have s15 : wB.cell? ⟨w.heap.size + 1, 3, none⟩ = some (.int .i64 q.s.c) := by rw [← hwB]; simp [go_sem]
  have s16 : wB.cell? ⟨w.heap.size + 1, 4, none⟩ = some (.int .i64 q.s.d) := by rw [← hwB]; simp [go_sem]
  have s17 : wB.cell? ⟨w.heap.size + 1, 5, none⟩ = some (.int .i64 q.s.rk) := by rw [← hwB]; simp [go_sem]
  have s18 : wB.cell? ⟨w.heap.size + 1, 6, none⟩ = some (.int .i64 q.s.up) := by rw [← hwB]; simp [go_sem]
  have s19 : wB.cell? ⟨w.heap.size + 1, 7, none⟩ = some (.int .i64 q.s.dn) := by rw [← hwB]; simp [go_sem]
  have s20 : wB.cell? ⟨w.heap.size + 1, 8, none⟩ = some (.slice aq q.s.cv.length cq) := by rw [← hwB]; simp [go_sem]
  have s21 : wB.cell? ⟨w.heap.size + 1, 9, none⟩ = some (.int .i64 q.d) := by rw [← hwB]; simp [go_sem]
  have s22 : wB.cell? ⟨w.heap.size + 1, 10, none⟩ = some (.int .i64 q.u) := by rw [← hwB]; simp [go_sem]
  have s23 : wB.cell? ⟨w.heap.size + 1, 11, none⟩ = some (.bool q.b) := by rw [← hwB]; simp [go_sem]
  rw [hwB]
  clear hwB kB
  go_loopw [11] (fun i wr => ∃ k : Nat, k ≤ 3 ∧ i = .int .i64 k ∧ GrownW wB wr ∧ Hid ((0 < k → r0 = 0) ∧ (1 < k → r1 = 0) ∧ (2 < k → r2 = 0))) (fun i _ => 3 - (intOf i).toNat)
  case atStart => exact ⟨0, by omega, rfl, GrownW.refl _, Lib.hid ⟨fun h => absurd h (by omega), fun h => absurd h (by omega), fun h => absurd h (by omega)⟩⟩
  case round =>
    obtain ⟨k, hk, rfl, hGr, HA⟩ := hrel
    have hGb := hGr.below
    have hGw := hG.trans hGr
    have f0 := cell_below f0 hGb
    have f1 := cell_below f1 hGb
    have f2 := cell_below f2 hGb
    have hzr := Nat.lt_of_lt_of_le hzB hGb.size
    have s0 := cell_below s0 hGb
    have s1 := cell_below s1 hGb
    have s2 := cell_below s2 hGb
    have s3 := cell_below s3 hGb
    have s4 := cell_below s4 hGb
    have s5 := cell_below s5 hGb
    have s6 := cell_below s6 hGb
    have s7 := cell_below s7 hGb
    have s8 := cell_below s8 hGb
    have s9 := cell_below s9 hGb
    have s10 := cell_below s10 hGb
    have s11 := cell_below s11 hGb
    have s12 := cell_below s12 hGb
    have s13 := cell_below s13 hGb
    have s14 := cell_below s14 hGb
    have s15 := cell_below s15 hGb
    have s16 := cell_below s16 hGb
    have s17 := cell_below s17 hGb
    have s18 := cell_below s18 hGb
    have s19 := cell_below s19 hGb
    have s20 := cell_below s20 hGb
    have s21 := cell_below s21 hGb
    have s22 := cell_below s22 hGb
    have s23 := cell_below s23 hGb
    rcases (by omega : k = 0 ∨ k = 1 ∨ k = 2 ∨ k = 3) with rfl | rfl | rfl | rfl
    · go_wp2_with fail
      have hz1 : w.heap.size + 1 < wr.heap.size := hzr
      clear f0 f1 f2 cB hzB hGb
      go_region_held3 (fun w' => w'.cell? ⟨w.heap.size, 0, none⟩ = some (.int .i64 p.s.n) ∧ w'.cell? ⟨w.heap.size, 1, none⟩ = some (.int .i64 p.s.k) ∧ w'.cell? ⟨w.heap.size, 2, none⟩ = some (.int .i64 p.s.v) ∧ w'.cell? ⟨w.heap.size, 3, none⟩ = some (.int .i64 p.s.c) ∧ w'.cell? ⟨w.heap.size, 4, none⟩ = some (.int .i64 p.s.d) ∧ w'.cell? ⟨w.heap.size, 5, none⟩ = some (.int .i64 p.s.rk) ∧ w'.cell? ⟨w.heap.size, 6, none⟩ = some (.int .i64 p.s.up) ∧ w'.cell? ⟨w.heap.size, 7, none⟩ = some (.int .i64 p.s.dn) ∧ w'.cell? ⟨w.heap.size, 8, none⟩ = some (.slice ad p.s.cv.length cp) ∧ w'.cell? ⟨w.heap.size, 9, none⟩ = some (.int .i64 p.d) ∧ w'.cell? ⟨w.heap.size, 10, none⟩ = some (.int .i64 p.u) ∧ w'.cell? ⟨w.heap.size, 11, none⟩ = some (.bool p.b) ∧ w'.cell? ⟨w.heap.size + 1, 0, none⟩ = some (.int .i64 q.s.n) ∧ w'.cell? ⟨w.heap.size + 1, 1, none⟩ = some (.int .i64 q.s.k) ∧ w'.cell? ⟨w.heap.size + 1, 2, none⟩ = some (.int .i64 q.s.v) ∧ w'.cell? ⟨w.heap.size + 1, 3, none⟩ = some (.int .i64 q.s.c) ∧ w'.cell? ⟨w.heap.size + 1, 4, none⟩ = some (.int .i64 q.s.d) ∧ w'.cell? ⟨w.heap.size + 1, 5, none⟩ = some (.int .i64 q.s.rk) ∧ w'.cell? ⟨w.heap.size + 1, 6, none⟩ = some (.int .i64 q.s.up) ∧ w'.cell? ⟨w.heap.size + 1, 7, none⟩ = some (.int .i64 q.s.dn) ∧ w'.cell? ⟨w.heap.size + 1, 8, none⟩ = some (.slice aq q.s.cv.length cq) ∧ w'.cell? ⟨w.heap.size + 1, 9, none⟩ = some (.int .i64 q.d) ∧ w'.cell? ⟨w.heap.size + 1, 10, none⟩ = some (.int .i64 q.u) ∧ w'.cell? ⟨w.heap.size + 1, 11, none⟩ = some (.bool q.b)) (go_keep)
        (first
          | (go_at_call 78
             refine (row1_r _ _ _ _).mono ?_
             rintro e w9 ⟨rfl, h9⟩
             have hG9 := GrownW.of_eq h9
             clear h9
             have hb9 := hG9.below
             have hz0 : w.heap.size < wr.heap.size := by omega
             have hzA := Nat.lt_of_lt_of_le hz1 hb9.size
             have s0 := (hb9.cell (p := ⟨w.heap.size, 0, none⟩) (Nat.lt_of_succ_lt hz1)).trans s0
             have s1 := (hb9.cell (p := ⟨w.heap.size, 1, none⟩) (Nat.lt_of_succ_lt hz1)).trans s1
             have s2 := (hb9.cell (p := ⟨w.heap.size, 2, none⟩) (Nat.lt_of_succ_lt hz1)).trans s2
             have s3 := (hb9.cell (p := ⟨w.heap.size, 3, none⟩) (Nat.lt_of_succ_lt hz1)).trans s3
             have s4 := (hb9.cell (p := ⟨w.heap.size, 4, none⟩) (Nat.lt_of_succ_lt hz1)).trans s4
             have s5 := (hb9.cell (p := ⟨w.heap.size, 5, none⟩) (Nat.lt_of_succ_lt hz1)).trans s5
             have s6 := (hb9.cell (p := ⟨w.heap.size, 6, none⟩) (Nat.lt_of_succ_lt hz1)).trans s6
             have s7 := (hb9.cell (p := ⟨w.heap.size, 7, none⟩) (Nat.lt_of_succ_lt hz1)).trans s7
             have s8 := (hb9.cell (p := ⟨w.heap.size, 8, none⟩) (Nat.lt_of_succ_lt hz1)).trans s8
             have s9 := (hb9.cell (p := ⟨w.heap.size, 9, none⟩) (Nat.lt_of_succ_lt hz1)).trans s9
             have s10 := (hb9.cell (p := ⟨w.heap.size, 10, none⟩) (Nat.lt_of_succ_lt hz1)).trans s10
             have s11 := (hb9.cell (p := ⟨w.heap.size, 11, none⟩) (Nat.lt_of_succ_lt hz1)).trans s11
             have s12 := (hb9.cell (p := ⟨w.heap.size + 1, 0, none⟩) hz1).trans s12
             have s13 := (hb9.cell (p := ⟨w.heap.size + 1, 1, none⟩) hz1).trans s13
             have s14 := (hb9.cell (p := ⟨w.heap.size + 1, 2, none⟩) hz1).trans s14
             have s15 := (hb9.cell (p := ⟨w.heap.size + 1, 3, none⟩) hz1).trans s15
             have s16 := (hb9.cell (p := ⟨w.heap.size + 1, 4, none⟩) hz1).trans s16
             have s17 := (hb9.cell (p := ⟨w.heap.size + 1, 5, none⟩) hz1).trans s17
             have s18 := (hb9.cell (p := ⟨w.heap.size + 1, 6, none⟩) hz1).trans s18
             have s19 := (hb9.cell (p := ⟨w.heap.size + 1, 7, none⟩) hz1).trans s19
             have s20 := (hb9.cell (p := ⟨w.heap.size + 1, 8, none⟩) hz1).trans s20
             have s21 := (hb9.cell (p := ⟨w.heap.size + 1, 9, none⟩) hz1).trans s21
             have s22 := (hb9.cell (p := ⟨w.heap.size + 1, 10, none⟩) hz1).trans s22
             have s23 := (hb9.cell (p := ⟨w.heap.size + 1, 11, none⟩) hz1).trans s23
             have hGr : GrownW wB w9 := by first | exact hGr.trans hG9 | exact hGr.drew.trans hG9
             have hz1 := hzA)
          | (go_at_call 86
             refine (HC0.out _).mono ?_
             rintro e w9 ⟨rfl, rfl⟩))
      all_goals
        by_cases h0 : r0 = 0
        · have HA2 : Hid ((0 < 0+1 → r0 = 0) ∧ (1 < 0+1 → r1 = 0) ∧ (2 < 0+1 → r2 = 0)) := Lib.hid (by
            have := HA.out
            refine ⟨fun h => ?_, fun h => ?_, fun h => ?_⟩ <;> first | exact h0 | exact this.1 (by omega) | exact this.2.1 (by omega) | omega)
          have h0 := Lib.hid h0
          clear HA
          have b0 : (r0 == 0) = true := by rw [h0.out]; rfl
          go_wp2_with fail
          go_roundw
          case rel => exact ⟨0 + 1, by omega, by go_num, by first | exact hGr | exact hGr.drew, HA2⟩
          case measure => simp [intOf]
        · have HR : Hid (cmpP p q = r0) := Lib.hid (by
            have := HA.out
            rw [HV.out]
            rw [if_pos h0])
          have b0 : (r0 == 0) = false := beq_false_of_ne h0
          clear HA HV
          go_wp2_with fail
          go_ret
          exact ⟨by rw [HR.out]; rfl, by first | exact hG.trans hGr | exact hG.trans hGr.drew⟩
    · go_wp2_with fail
      have hz1 : w.heap.size + 1 < wr.heap.size := hzr
      clear f0 f1 f2 cB hzB hGb
      go_region_held3 (fun w' => w'.cell? ⟨w.heap.size, 0, none⟩ = some (.int .i64 p.s.n) ∧ w'.cell? ⟨w.heap.size, 1, none⟩ = some (.int .i64 p.s.k) ∧ w'.cell? ⟨w.heap.size, 2, none⟩ = some (.int .i64 p.s.v) ∧ w'.cell? ⟨w.heap.size, 3, none⟩ = some (.int .i64 p.s.c) ∧ w'.cell? ⟨w.heap.size, 4, none⟩ = some (.int .i64 p.s.d) ∧ w'.cell? ⟨w.heap.size, 5, none⟩ = some (.int .i64 p.s.rk) ∧ w'.cell? ⟨w.heap.size, 6, none⟩ = some (.int .i64 p.s.up) ∧ w'.cell? ⟨w.heap.size, 7, none⟩ = some (.int .i64 p.s.dn) ∧ w'.cell? ⟨w.heap.size, 8, none⟩ = some (.slice ad p.s.cv.length cp) ∧ w'.cell? ⟨w.heap.size, 9, none⟩ = some (.int .i64 p.d) ∧ w'.cell? ⟨w.heap.size, 10, none⟩ = some (.int .i64 p.u) ∧ w'.cell? ⟨w.heap.size, 11, none⟩ = some (.bool p.b) ∧ w'.cell? ⟨w.heap.size + 1, 0, none⟩ = some (.int .i64 q.s.n) ∧ w'.cell? ⟨w.heap.size + 1, 1, none⟩ = some (.int .i64 q.s.k) ∧ w'.cell? ⟨w.heap.size + 1, 2, none⟩ = some (.int .i64 q.s.v) ∧ w'.cell? ⟨w.heap.size + 1, 3, none⟩ = some (.int .i64 q.s.c) ∧ w'.cell? ⟨w.heap.size + 1, 4, none⟩ = some (.int .i64 q.s.d) ∧ w'.cell? ⟨w.heap.size + 1, 5, none⟩ = some (.int .i64 q.s.rk) ∧ w'.cell? ⟨w.heap.size + 1, 6, none⟩ = some (.int .i64 q.s.up) ∧ w'.cell? ⟨w.heap.size + 1, 7, none⟩ = some (.int .i64 q.s.dn) ∧ w'.cell? ⟨w.heap.size + 1, 8, none⟩ = some (.slice aq q.s.cv.length cq) ∧ w'.cell? ⟨w.heap.size + 1, 9, none⟩ = some (.int .i64 q.d) ∧ w'.cell? ⟨w.heap.size + 1, 10, none⟩ = some (.int .i64 q.u) ∧ w'.cell? ⟨w.heap.size + 1, 11, none⟩ = some (.bool q.b)) (go_keep)
        (first
          | (go_at_call 79
             refine (row2_r _ _ _ _).mono ?_
             rintro e w9 ⟨rfl, h9⟩
             have hG9 := GrownW.of_eq h9
             clear h9
             have hb9 := hG9.below
             have hz0 : w.heap.size < wr.heap.size := by omega
             have hzA := Nat.lt_of_lt_of_le hz1 hb9.size
             have s0 := (hb9.cell (p := ⟨w.heap.size, 0, none⟩) (Nat.lt_of_succ_lt hz1)).trans s0
             have s1 := (hb9.cell (p := ⟨w.heap.size, 1, none⟩) (Nat.lt_of_succ_lt hz1)).trans s1
             have s2 := (hb9.cell (p := ⟨w.heap.size, 2, none⟩) (Nat.lt_of_succ_lt hz1)).trans s2
             have s3 := (hb9.cell (p := ⟨w.heap.size, 3, none⟩) (Nat.lt_of_succ_lt hz1)).trans s3
             have s4 := (hb9.cell (p := ⟨w.heap.size, 4, none⟩) (Nat.lt_of_succ_lt hz1)).trans s4
             have s5 := (hb9.cell (p := ⟨w.heap.size, 5, none⟩) (Nat.lt_of_succ_lt hz1)).trans s5
             have s6 := (hb9.cell (p := ⟨w.heap.size, 6, none⟩) (Nat.lt_of_succ_lt hz1)).trans s6
             have s7 := (hb9.cell (p := ⟨w.heap.size, 7, none⟩) (Nat.lt_of_succ_lt hz1)).trans s7
             have s8 := (hb9.cell (p := ⟨w.heap.size, 8, none⟩) (Nat.lt_of_succ_lt hz1)).trans s8
             have s9 := (hb9.cell (p := ⟨w.heap.size, 9, none⟩) (Nat.lt_of_succ_lt hz1)).trans s9
             have s10 := (hb9.cell (p := ⟨w.heap.size, 10, none⟩) (Nat.lt_of_succ_lt hz1)).trans s10
             have s11 := (hb9.cell (p := ⟨w.heap.size, 11, none⟩) (Nat.lt_of_succ_lt hz1)).trans s11
             have s12 := (hb9.cell (p := ⟨w.heap.size + 1, 0, none⟩) hz1).trans s12
             have s13 := (hb9.cell (p := ⟨w.heap.size + 1, 1, none⟩) hz1).trans s13
             have s14 := (hb9.cell (p := ⟨w.heap.size + 1, 2, none⟩) hz1).trans s14
             have s15 := (hb9.cell (p := ⟨w.heap.size + 1, 3, none⟩) hz1).trans s15
             have s16 := (hb9.cell (p := ⟨w.heap.size + 1, 4, none⟩) hz1).trans s16
             have s17 := (hb9.cell (p := ⟨w.heap.size + 1, 5, none⟩) hz1).trans s17
             have s18 := (hb9.cell (p := ⟨w.heap.size + 1, 6, none⟩) hz1).trans s18
             have s19 := (hb9.cell (p := ⟨w.heap.size + 1, 7, none⟩) hz1).trans s19
             have s20 := (hb9.cell (p := ⟨w.heap.size + 1, 8, none⟩) hz1).trans s20
             have s21 := (hb9.cell (p := ⟨w.heap.size + 1, 9, none⟩) hz1).trans s21
             have s22 := (hb9.cell (p := ⟨w.heap.size + 1, 10, none⟩) hz1).trans s22
             have s23 := (hb9.cell (p := ⟨w.heap.size + 1, 11, none⟩) hz1).trans s23
             have hGr : GrownW wB w9 := by first | exact hGr.trans hG9 | exact hGr.drew.trans hG9
             have hz1 := hzA)
          | (go_at_call 86
             refine (HC1.out _).mono ?_
             rintro e w9 ⟨rfl, rfl⟩))
      all_goals
        by_cases h0 : r1 = 0
        · have HA2 : Hid ((0 < 1+1 → r0 = 0) ∧ (1 < 1+1 → r1 = 0) ∧ (2 < 1+1 → r2 = 0)) := Lib.hid (by
            have := HA.out
            refine ⟨fun h => ?_, fun h => ?_, fun h => ?_⟩ <;> first | exact h0 | exact this.1 (by omega) | exact this.2.1 (by omega) | omega)
          have h0 := Lib.hid h0
          clear HA
          have b0 : (r1 == 0) = true := by rw [h0.out]; rfl
          go_wp2_with fail
          go_roundw
          case rel => exact ⟨1 + 1, by omega, by go_num, by first | exact hGr | exact hGr.drew, HA2⟩
          case measure => simp [intOf]
        · have HR : Hid (cmpP p q = r1) := Lib.hid (by
            have := HA.out
            rw [HV.out]
            rw [if_neg (fun h => h (this.1 (by omega)))]
            rw [if_pos h0])
          have b0 : (r1 == 0) = false := beq_false_of_ne h0
          clear HA HV
          go_wp2_with fail
          go_ret
          exact ⟨by rw [HR.out]; rfl, by first | exact hG.trans hGr | exact hG.trans hGr.drew⟩
    · go_wp2_with fail
      have hz1 : w.heap.size + 1 < wr.heap.size := hzr
      clear f0 f1 f2 cB hzB hGb
      go_region_held3 (fun w' => w'.cell? ⟨w.heap.size, 0, none⟩ = some (.int .i64 p.s.n) ∧ w'.cell? ⟨w.heap.size, 1, none⟩ = some (.int .i64 p.s.k) ∧ w'.cell? ⟨w.heap.size, 2, none⟩ = some (.int .i64 p.s.v) ∧ w'.cell? ⟨w.heap.size, 3, none⟩ = some (.int .i64 p.s.c) ∧ w'.cell? ⟨w.heap.size, 4, none⟩ = some (.int .i64 p.s.d) ∧ w'.cell? ⟨w.heap.size, 5, none⟩ = some (.int .i64 p.s.rk) ∧ w'.cell? ⟨w.heap.size, 6, none⟩ = some (.int .i64 p.s.up) ∧ w'.cell? ⟨w.heap.size, 7, none⟩ = some (.int .i64 p.s.dn) ∧ w'.cell? ⟨w.heap.size, 8, none⟩ = some (.slice ad p.s.cv.length cp) ∧ w'.cell? ⟨w.heap.size, 9, none⟩ = some (.int .i64 p.d) ∧ w'.cell? ⟨w.heap.size, 10, none⟩ = some (.int .i64 p.u) ∧ w'.cell? ⟨w.heap.size, 11, none⟩ = some (.bool p.b) ∧ w'.cell? ⟨w.heap.size + 1, 0, none⟩ = some (.int .i64 q.s.n) ∧ w'.cell? ⟨w.heap.size + 1, 1, none⟩ = some (.int .i64 q.s.k) ∧ w'.cell? ⟨w.heap.size + 1, 2, none⟩ = some (.int .i64 q.s.v) ∧ w'.cell? ⟨w.heap.size + 1, 3, none⟩ = some (.int .i64 q.s.c) ∧ w'.cell? ⟨w.heap.size + 1, 4, none⟩ = some (.int .i64 q.s.d) ∧ w'.cell? ⟨w.heap.size + 1, 5, none⟩ = some (.int .i64 q.s.rk) ∧ w'.cell? ⟨w.heap.size + 1, 6, none⟩ = some (.int .i64 q.s.up) ∧ w'.cell? ⟨w.heap.size + 1, 7, none⟩ = some (.int .i64 q.s.dn) ∧ w'.cell? ⟨w.heap.size + 1, 8, none⟩ = some (.slice aq q.s.cv.length cq) ∧ w'.cell? ⟨w.heap.size + 1, 9, none⟩ = some (.int .i64 q.d) ∧ w'.cell? ⟨w.heap.size + 1, 10, none⟩ = some (.int .i64 q.u) ∧ w'.cell? ⟨w.heap.size + 1, 11, none⟩ = some (.bool q.b)) (go_keep)
        (first
          | (go_at_call 80
             refine (row3_r _ _ _ _).mono ?_
             rintro e w9 ⟨rfl, h9⟩
             have hG9 := GrownW.of_eq h9
             clear h9
             have hb9 := hG9.below
             have hz0 : w.heap.size < wr.heap.size := by omega
             have hzA := Nat.lt_of_lt_of_le hz1 hb9.size
             have s0 := (hb9.cell (p := ⟨w.heap.size, 0, none⟩) (Nat.lt_of_succ_lt hz1)).trans s0
             have s1 := (hb9.cell (p := ⟨w.heap.size, 1, none⟩) (Nat.lt_of_succ_lt hz1)).trans s1
             have s2 := (hb9.cell (p := ⟨w.heap.size, 2, none⟩) (Nat.lt_of_succ_lt hz1)).trans s2
             have s3 := (hb9.cell (p := ⟨w.heap.size, 3, none⟩) (Nat.lt_of_succ_lt hz1)).trans s3
             have s4 := (hb9.cell (p := ⟨w.heap.size, 4, none⟩) (Nat.lt_of_succ_lt hz1)).trans s4
             have s5 := (hb9.cell (p := ⟨w.heap.size, 5, none⟩) (Nat.lt_of_succ_lt hz1)).trans s5
             have s6 := (hb9.cell (p := ⟨w.heap.size, 6, none⟩) (Nat.lt_of_succ_lt hz1)).trans s6
             have s7 := (hb9.cell (p := ⟨w.heap.size, 7, none⟩) (Nat.lt_of_succ_lt hz1)).trans s7
             have s8 := (hb9.cell (p := ⟨w.heap.size, 8, none⟩) (Nat.lt_of_succ_lt hz1)).trans s8
             have s9 := (hb9.cell (p := ⟨w.heap.size, 9, none⟩) (Nat.lt_of_succ_lt hz1)).trans s9
             have s10 := (hb9.cell (p := ⟨w.heap.size, 10, none⟩) (Nat.lt_of_succ_lt hz1)).trans s10
             have s11 := (hb9.cell (p := ⟨w.heap.size, 11, none⟩) (Nat.lt_of_succ_lt hz1)).trans s11
             have s12 := (hb9.cell (p := ⟨w.heap.size + 1, 0, none⟩) hz1).trans s12
             have s13 := (hb9.cell (p := ⟨w.heap.size + 1, 1, none⟩) hz1).trans s13
             have s14 := (hb9.cell (p := ⟨w.heap.size + 1, 2, none⟩) hz1).trans s14
             have s15 := (hb9.cell (p := ⟨w.heap.size + 1, 3, none⟩) hz1).trans s15
             have s16 := (hb9.cell (p := ⟨w.heap.size + 1, 4, none⟩) hz1).trans s16
             have s17 := (hb9.cell (p := ⟨w.heap.size + 1, 5, none⟩) hz1).trans s17
             have s18 := (hb9.cell (p := ⟨w.heap.size + 1, 6, none⟩) hz1).trans s18
             have s19 := (hb9.cell (p := ⟨w.heap.size + 1, 7, none⟩) hz1).trans s19
             have s20 := (hb9.cell (p := ⟨w.heap.size + 1, 8, none⟩) hz1).trans s20
             have s21 := (hb9.cell (p := ⟨w.heap.size + 1, 9, none⟩) hz1).trans s21
             have s22 := (hb9.cell (p := ⟨w.heap.size + 1, 10, none⟩) hz1).trans s22
             have s23 := (hb9.cell (p := ⟨w.heap.size + 1, 11, none⟩) hz1).trans s23
             have hGr : GrownW wB w9 := by first | exact hGr.trans hG9 | exact hGr.drew.trans hG9
             have hz1 := hzA)
          | (go_at_call 86
             refine (HC2.out _).mono ?_
             rintro e w9 ⟨rfl, rfl⟩))
      all_goals
        by_cases h0 : r2 = 0
        · have HA2 : Hid ((0 < 2+1 → r0 = 0) ∧ (1 < 2+1 → r1 = 0) ∧ (2 < 2+1 → r2 = 0)) := Lib.hid (by
            have := HA.out
            refine ⟨fun h => ?_, fun h => ?_, fun h => ?_⟩ <;> first | exact h0 | exact this.1 (by omega) | exact this.2.1 (by omega) | omega)
          have h0 := Lib.hid h0
          clear HA
          have b0 : (r2 == 0) = true := by rw [h0.out]; rfl
          go_wp2_with fail
          go_roundw
          case rel => exact ⟨2 + 1, by omega, by go_num, by first | exact hGr | exact hGr.drew, HA2⟩
          case measure => simp [intOf]
        · have HR : Hid (cmpP p q = r2) := Lib.hid (by
            have := HA.out
            rw [HV.out]
            rw [if_neg (fun h => h (this.1 (by omega)))]
            rw [if_neg (fun h => h (this.2.1 (by omega)))]
            skip)
          have b0 : (r2 == 0) = false := beq_false_of_ne h0
          clear HA HV
          go_wp2_with fail
          go_ret
          exact ⟨by rw [HR.out]; rfl, by first | exact hG.trans hGr | exact hG.trans hGr.drew⟩
    · have HR : Hid (cmpP p q = 0) := Lib.hid (by
        have := HA.out
        rw [HV.out, if_neg (fun h => h (this.1 (by omega))), if_neg (fun h => h (this.2.1 (by omega)))]; exact this.2.2 (by omega))
      clear HV HA
      go_wp2_with fail
      go_ret
      exact ⟨by rw [HR.out]; rfl, hGw⟩
end Go.Proofs.YtneafbhiencjlaaGreatDoor

namespace Go.Proofs.YtneafbhiencjlaaGreatDoor
set_option linter.unusedVariables false
set_option linter.unusedSimpArgs false
open Go.RowKit

/-- A sign of a row with where its covers lie. -/
abbrev PE := Pst × Option Addr × Nat
def encP (x : PE) : List Value := [.int .i64 x.1.s.n, .int .i64 x.1.s.k, .int .i64 x.1.s.v, .int .i64 x.1.s.c, .int .i64 x.1.s.d, .int .i64 x.1.s.rk, .int .i64 x.1.s.up, .int .i64 x.1.s.dn, .slice x.2.1 x.1.s.cv.length x.2.2, .int .i64 x.1.d, .int .i64 x.1.u, .bool x.1.b]
theorem encP_len (x : PE) : (encP x).length = 12 := rfl
theorem encP_one (x : PE) : ∀ v ∈ encP x, v.oneCell' = true := by
  intro v hv
  simp [encP] at hv
  rcases hv with rfl | rfl | rfl | rfl | rfl | rfl | rfl | rfl | rfl | rfl | rfl | rfl <;> rfl
instance : Inhabited Pst := ⟨⟨⟨0, 0, 0, 0, 0, 0, 0, 0, []⟩, 0, 0, false⟩⟩
def clP (l : List PE) : List Value := l.flatMap encP
theorem clP_app (l : List PE) (x : PE) : clP (l ++ [x]) = clP l ++ encP x := by simp [clP]
theorem clP_len (l : List PE) : (clP l).length = l.length * 12 := by
  induction l with
  | nil => rfl
  | cons p l ih => unfold clP at *; rw [List.flatMap_cons, List.length_append, ih, encP_len]; simp; omega
theorem clP_get : ∀ (l : List PE) (j : Nat), j < l.length * 12 → (clP l)[j]? = some ((encP l[j / 12]!)[j % 12]!)
  | [], j, h => by simp at h
  | p :: l, j, h => by
    unfold clP
    rw [List.flatMap_cons]
    by_cases h1 : j < 12
    · rw [List.getElem?_append_left (by rw [encP_len]; exact h1), show j / 12 = 0 by omega, show j % 12 = j by omega]
      have hl : j < (encP p).length := h1
      rw [List.getElem?_eq_getElem hl, getElem!_pos _ j hl]
      rfl
    · have ih := clP_get l (j - 12) (by simp at h; omega)
      unfold clP at ih
      rw [List.getElem?_append_right (by rw [encP_len]; omega), encP_len, ih, show j / 12 = (j - 12) / 12 + 1 by omega, show j % 12 = (j - 12) % 12 by omega]
      rfl
theorem holdsP {w : World} {base g c : Nat} {l : List PE} (h : w.ownsRow base 110 12 (.slice (some ⟨g, 0, none⟩) l.length c) l.length (clP l)) : Sort.HoldsK encP 12 w g 0 l.toArray := by
  intro j hj
  rw [Sort.size_flatK] at hj
  have hj2 : j < l.length * 12 := by simpa using hj
  rw [Sort.get_flatK _ _ _ _ hj, Nat.zero_add, World.ownsRow.cellAt h j (by omega), clP_get l j hj2]
  refine ⟨?_, World.ownsRow.frozenAt h j⟩
  have hd : j / 12 < l.length := by omega
  have e : l.toArray[j / 12]! = l[j / 12]! := by rw [getElem!_pos _ (j / 12) (by simpa using hd), getElem!_pos _ (j / 12) hd]; simp
  rw [e]; rfl
theorem cmp_lt (a b : Int) : Lib.compareInt a b < 0 ↔ a < b := by
  unfold Lib.compareInt; split
  · simp_all
  · split <;> simp_all
theorem cmp_eq (a b : Int) : Lib.compareInt a b = 0 ↔ a = b := by
  unfold Lib.compareInt; split
  · simp; omega
  · split <;> (simp; omega)
/-- Comes p ahead of q? -/
def ahdP (p q : Pst) : Prop := p.d < q.d ∨ (p.d = q.d ∧ (p.s.rk < q.s.rk ∨ (p.s.rk = q.s.rk ∧ p.s.n < q.s.n)))
theorem cmpP_lt (p q : Pst) : cmpP p q < 0 ↔ ahdP p q := by
  unfold cmpP ahdP
  have a0 := cmp_lt p.d q.d
  have a1 := cmp_eq p.d q.d
  have b0 := cmp_lt p.s.rk q.s.rk
  have b1 := cmp_eq p.s.rk q.s.rk
  have c0 := cmp_lt p.s.n q.s.n
  generalize Lib.compareInt p.d q.d = A at *
  generalize Lib.compareInt p.s.rk q.s.rk = B at *
  generalize Lib.compareInt p.s.n q.s.n = C at *
  by_cases hA : A = 0
  · rw [if_neg (by simp [hA])]
    by_cases hB : B = 0
    · rw [if_neg (by simp [hB]), c0]; have := a1.1 hA; have := b1.1 hB; omega
    · rw [if_pos hB, b0]; have := a1.1 hA; have := mt b1.2 hB; omega
  · rw [if_pos hA, a0]; have := mt a1.2 hA; omega
theorem ltP (x y : PE) : ltOf (fun x y : PE => cmpP x.1 y.1) x y = decide (cmpP x.1 y.1 < 0) := rfl
theorem swoP : Sort.SWO (ltOf fun x y : PE => cmpP x.1 y.1) where
  irrefl x := by rw [ltP, decide_eq_false_iff_not, cmpP_lt]; unfold ahdP; omega
  trans x y z h1 h2 := by rw [ltP, decide_eq_true_eq, cmpP_lt] at *; unfold ahdP at *; omega
  ntrans x y z h1 h2 := by rw [ltP, decide_eq_false_iff_not, cmpP_lt] at *; unfold ahdP at *; omega
/-- slices.SortFunc at a row. -/
theorem sortP_r (base g c B Fb : Nat) (l : List PE) (w : World) (h : w.ownsRow base 110 12 (.slice (some ⟨g, 0, none⟩) l.length c) l.length (clP l)) (hn : l.length ≤ 100000000) (cB : w.cell? ⟨B, 0, none⟩ = some (.slice (some ⟨Fb, 0, none⟩) 3 3))
    (f0 : w.cell? ⟨Fb, 0, none⟩ = some (.func (.func 78) #[] #[])) (f1 : w.cell? ⟨Fb, 1, none⟩ = some (.func (.func 79) #[] #[])) (f2 : w.cell? ⟨Fb, 2, none⟩ = some (.func (.func 80) #[] #[])) (hB : B ≠ g) (hF : Fb ≠ g) :
    Calls Tryz.prog 76 #[.slice (some ⟨g, 0, none⟩) l.length c, .func (.func 108) #[] #[.pointer (some ⟨B, 0, none⟩)]] w fun e w' => e = .returned (.tuple #[]) ∧ ∃ d : Array PE, d.toList.Perm l ∧ d.size = l.length ∧ (∀ i j, i < j → j < d.size → ¬ ahdP d[j]!.1 d[i]!.1) ∧ Sort.HoldsK encP 12 w' g 0 d ∧ Below base w w' := by
  have eg : ∀ args w, (callFunc 108 args).run Tryz.prog w = .ok (.enter 108 args) w := enters_of Tryz.func108 (by kernel_rfl) rfl
  obtain ⟨hg1, hg2⟩ : base ≤ g ∧ g < w.heap.size := by
    rcases h.2 with ⟨h1, h2⟩ | ⟨g2, c2, cur, h1, h2, h3, h4⟩
    · cases h1
    · have e : g = g2 := by simpa using (Value.slice.inj h1).1
      subst e
      exact ⟨h2, (Array.getElem?_eq_some_iff.1 h3).1⟩
  have hcmp : CmpLays Tryz.prog 108 #[.pointer (some ⟨B, 0, none⟩)] encP 12 (fun x y : PE => cmpP x.1 y.1) g 0 l.toArray.size w := fun m os dk _ x y => by
    have k := fun (b o : Nat) (v : Value) (hb : b ≠ g) (hv : w.cell? ⟨b, o, none⟩ = some v) => (cell?_sortWorldK_other encP 12 w g 0 m dk os ⟨b, o, none⟩ hb (block_lt hv)).trans hv
    exact by_r x.1 y.1 x.2.1 y.2.1 x.2.2 y.2.2 B Fb _ (k B 0 _ hB cB) (k Fb 0 _ hF f0) (k Fb 1 _ hF f1) (k Fb 2 _ hF f2)
  have hcon := AnyQ.slices_SortFunc Tryz.laysSortP 12 Tryz.isAgg110 Tryz.sizeOf110 encP encP_len encP_one (fun x y : PE => cmpP x.1 y.1) swoP 108 #[.pointer (some ⟨B, 0, none⟩)] g 0 c l.toArray w eg hcmp (holdsP h) hg2 (by simp; omega)
  change Calls Tryz.prog 76 _ _ _ at hcon
  rw [show l.toArray.size = l.length by simp] at hcon
  refine hcon.mono ?_
  rintro e w' ⟨he, d', n, os, ⟨hs, -, hp⟩, hso, rfl⟩
  have hs2 : d'.size = l.length := by simpa using hs
  refine ⟨he, d', ?_, hs2, ?_, holdsK_sortWorldK encP 12 w g 0 n l.toArray d' os hg2 (holdsP h) hs, ?_⟩
  · have e1 : (d'.extract 0 l.length).toList = d'.toList := by rw [← hs2]; simp
    have e2 : (l.toArray.extract 0 l.length).toList = l := by simp
    rw [e1, e2] at hp
    exact hp
  · intro i j hij hj
    have := hso i j (Nat.zero_le _) hij (by omega)
    rw [ltP, decide_eq_false_iff_not, cmpP_lt] at this
    exact this
  · have b1 : Below base w (Sort.putRowK encP 12 (Sort.ahead w n) g 0 d') := Lib.below_putRow (Below.refl _ _) hg1
    exact b1.trans (by
      have := Lib.below_grow base (Sort.putRowK encP 12 (Sort.ahead w n) g 0 d') (by have := b1.size; omega) 0 os
      exact this)
theorem sortPNil_r (c : Nat) (fv : Value) (w : World) : Calls Tryz.prog 76 #[.slice none 0 c, fv] w fun e w' => e = .returned (.tuple #[]) ∧ w' = w := by
  have := AnyF.slices_SortFunc_none Tryz.laysSortP none c fv w
  change Calls Tryz.prog 76 _ _ _ at this
  exact this
end Go.Proofs.YtneafbhiencjlaaGreatDoor

namespace Go.Proofs.YtneafbhiencjlaaGreatDoor
set_option linter.unusedVariables false
set_option linter.unusedSimpArgs false

section
variable {P : Program} {ops : Array Oper} {Q : Exit → Act → World → Prop} {md : Region.Mode} {S : World → Prop}
/-- An operation that is not wanted leaves nothing. -/
theorem skipU {i : Nat} (d : Option Nat) {fuel : Nat} {listed : Array Bool} {a : Act} {w : World} (hs : Region.noSelect ops = true) (hf : Region.free md ops listed i = true) (hr : (Region.ready md ops listed).contains i = true)
    (hd : (ops[i]?).map (·.dst) = some d) (hu : ((ops[i]?).map fun o => Region.wanted o (yielded ops a.tmps)) = some false) (hQ : ∀ c a w, Q (.panic c) (a.put d undef) w → Q (.panic c) a w) (hS : S w)
    (h : wpAnyH P md ops Q S fuel (listed.setIfInBounds i true) (a.put d undef) w) : wpAnyH P md ops Q S (fuel + 1) listed a w := by
  cases ho : ops[i]? with
  | none => rw [ho] at hd; cases hd
  | some o =>
    rw [ho] at hd hu
    simp only [Option.map_some, Option.some.injEq] at hd hu
    subst hd
    exact wpAnyH_take ho hs hf hr hQ (.inr ⟨hu, rfl⟩) hS h
/-- An operation that yields its value in every world. -/
theorem takeU {i : Nat} (d : Option Nat) (v : Value) {fuel : Nat} {listed : Array Bool} {a : Act} {w : World} (hs : Region.noSelect ops = true) (hf : Region.free md ops listed i = true) (hr : (Region.ready md ops listed).contains i = true)
    (hd : (ops[i]?).map (·.dst) = some d) (hu : ((ops[i]?).map fun o => Region.wanted o (yielded ops a.tmps)) = some true) (hv : ∀ w, ((ops[i]?).map fun o => (execOp a.eval o).run P w) = some (.ok (.value v) w)) (hQ : ∀ c a w, Q (.panic c) (a.put d v) w → Q (.panic c) a w) (hS : S w)
    (h : wpAnyH P md ops Q S fuel (listed.setIfInBounds i true) (a.put d v) w) : wpAnyH P md ops Q S (fuel + 1) listed a w := by
  cases ho : ops[i]? with
  | none => rw [ho] at hd; cases hd
  | some o =>
    rw [ho] at hd hu hv
    simp only [Option.map_some, Option.some.injEq] at hd hu hv
    subst hd
    exact wpAnyH_take ho hs hf hr hQ (.inl ⟨hu, fun w _ => hv w⟩) hS h
end
end Go.Proofs.YtneafbhiencjlaaGreatDoor
