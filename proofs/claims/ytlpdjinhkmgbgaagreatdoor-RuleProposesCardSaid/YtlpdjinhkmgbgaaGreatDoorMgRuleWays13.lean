/-
  The moments of signs and edicts, as a list. By an AI agent.; maps.Keys and slices.Sorted of it at the map of hours. By an AI agent.; Between two neighbouring moments nothing changes. By an AI agent.; The program's moments. By an AI agent.; The program's Moments, whole. By an AI agent.
-/
import Derived.Test.YtlpdjinhkmgbgaaGreatDoorMgRuleWays1
import Derived.Test.YtlpdjinhkmgbgaaGreatDoorMgRuleWays8
import Derived.Test.YtlpdjinhkmgbgaaGreatDoorMgRuleWays9
import Derived.Test.YtlpdjinhkmgbgaaGreatDoorMgRuleWays10
import Derived.Test.YtlpdjinhkmgbgaaGreatDoorMgRuleWays11
import Derived.Test.YtlpdjinhkmgbgaaGreatDoorMgRuleWays12
import Derived.Shelf.SortM.Plain
import Derived.Shelf.SortM.SortNone
import Derived.Shelf.AbstractIn
import Derived.Deep.RegionHeld3
import Derived.Deep.DeepCutAuto
import Derived.BigQuiet
import Derived.BigRegion
import Derived.StillTailTactics
import Derived.Deep.AppendLies
import Derived.Carry
import Derived.Maps.AppendAt

namespace Go.Proofs.YtlpdjinhkmgbgaaGreatDoor
set_option linter.unusedVariables false
set_option linter.unusedSimpArgs false
open Go.RowKit

/-- Where an hour goes in a list, from place k down. -/
def plcH (h : Int) (out : List Int) : Nat → Nat
  | 0 => 0
  | k + 1 => if h < gi out k then plcH h out k else k + 1
theorem plcH_le (h : Int) (out : List Int) : ∀ k, plcH h out k ≤ k
  | 0 => Nat.le_refl _
  | k + 1 => by
    rw [plcH]; split
    · exact Nat.le_succ_of_le (plcH_le h out k)
    · exact Nat.le_refl _
theorem plcH_yes {h : Int} {out : List Int} {k : Nat} (e : h < gi out k) : plcH h out (k + 1) = plcH h out k := by rw [plcH, if_pos e]
theorem plcH_no {h : Int} {out : List Int} {k : Nat} (e : ¬ h < gi out k) : plcH h out (k + 1) = k + 1 := by rw [plcH, if_neg e]
/-- An hour into an ascending list, once, if it is not beyond all hours. -/
def putH (out : List Int) (h : Int) : List Int :=
  if 10000000 < h ∨ (0 < plcH h out out.length ∧ gi out (plcH h out out.length - 1) = h) then out
  else out.take (plcH h out out.length) ++ h :: out.drop (plcH h out out.length)
theorem plcH_spec {h : Int} {out : List Int} (hs : out.Pairwise (· < ·)) : ∀ k, k ≤ out.length → (∀ i, i < plcH h out k → gi out i ≤ h) ∧ (∀ i, plcH h out k ≤ i → i < k → h < gi out i)
  | 0, _ => ⟨fun i hi => absurd hi (Nat.not_lt_zero _), fun i _ hi => absurd hi (Nat.not_lt_zero _)⟩
  | k + 1, hk => by
    rw [plcH]; split
    next e =>
      have ih := plcH_spec (h := h) hs k (by omega)
      refine ⟨ih.1, fun i h1 h2 => ?_⟩
      by_cases ei : i = k
      · rw [ei]; exact e
      · exact ih.2 i h1 (by omega)
    next e =>
      refine ⟨fun i hi => ?_, fun i h1 h2 => by omega⟩
      by_cases ei : i = k
      · rw [ei]; omega
      · have := (List.pairwise_iff_getElem.1 hs) i k (by omega) (by omega) (by omega)
        rw [← gi_at _ (by omega), ← gi_at _ (by omega)] at this
        omega
theorem putH_asc {out : List Int} {h : Int} (hs : out.Pairwise (· < ·)) : (putH out h).Pairwise (· < ·) := by
  unfold putH
  split
  · exact hs
  next hn =>
    obtain ⟨h1, h2⟩ := plcH_spec (h := h) hs out.length (Nat.le_refl _)
    have hle := plcH_le h out out.length
    generalize plcH h out out.length = p at *
    have ht : ∀ y, y ∈ out.take p → y < h := fun y hy => by
      obtain ⟨i, hi, e⟩ := List.getElem_of_mem hy
      rw [List.length_take] at hi
      rw [List.getElem_take] at e
      have a1 := h1 i (by omega)
      rw [gi_at _ (by omega), e] at a1
      by_cases ei : i = p - 1
      · have : ¬ y = h := fun e2 => hn (.inr ⟨by omega, by rw [← ei, gi_at _ (by omega), e, e2]⟩)
        omega
      · have a2 := (List.pairwise_iff_getElem.1 hs) i (p - 1) (by omega) (by omega) (by omega)
        have a3 := h1 (p - 1) (by omega)
        rw [gi_at _ (by omega)] at a3
        omega
    have hd : ∀ y, y ∈ out.drop p → h < y := fun y hy => by
      obtain ⟨i, hi, e⟩ := List.getElem_of_mem hy
      rw [List.length_drop] at hi
      rw [List.getElem_drop] at e
      have := h2 (p + i) (by omega) (by omega)
      rw [gi_at _ (by omega), e] at this
      exact this
    refine List.pairwise_append.2 ⟨hs.sublist (List.take_sublist _ _), List.pairwise_cons.2 ⟨hd, hs.sublist (List.drop_sublist _ _)⟩, fun y hy z hz => ?_⟩
    rcases List.mem_cons.1 hz with rfl | hz
    · exact ht y hy
    · have := ht y hy
      have := hd z hz
      omega
theorem putH_mem {out : List Int} {h x : Int} : x ∈ putH out h ↔ x ∈ out ∨ (x = h ∧ h ≤ 10000000) := by
  unfold putH
  split
  next hn =>
    refine ⟨.inl, fun hx => ?_⟩
    rcases hx with hx | ⟨rfl, hx⟩
    · exact hx
    · rcases hn with hn | ⟨h1, h2⟩
      · omega
      · have hle := plcH_le x out out.length
        rw [← h2, gi_at _ (by omega)]
        exact List.getElem_mem _
  next hn =>
    rw [List.mem_append, List.mem_cons]
    have hs : x ∈ out ↔ x ∈ out.take (plcH h out out.length) ∨ x ∈ out.drop (plcH h out out.length) := by
      rw [← List.mem_append, List.take_append_drop]
    rw [hs]
    constructor
    · rintro (h1 | h1 | h1)
      · exact .inl (.inl h1)
      · exact .inr ⟨h1, by omega⟩
      · exact .inl (.inr h1)
    · rintro ((h1 | h1) | ⟨h1, -⟩)
      · exact .inl h1
      · exact .inr (.inr h1)
      · exact .inr (.inl h1)
theorem putH_len (out : List Int) (h : Int) : (putH out h).length ≤ out.length + 1 := by
  have hle := plcH_le h out out.length
  unfold putH
  split
  · omega
  · simp; omega
theorem fold_asc : ∀ (hs : List Int) (out : List Int), out.Pairwise (· < ·) → (hs.foldl putH out).Pairwise (· < ·)
  | [], out, h => h
  | x :: hs, out, h => fold_asc hs _ (putH_asc h)
theorem fold_mem {x : Int} : ∀ (hs : List Int) (out : List Int), x ∈ hs.foldl putH out ↔ x ∈ out ∨ (x ∈ hs ∧ x ≤ 10000000)
  | [], out => by simp
  | y :: hs, out => by
    rw [List.foldl_cons, fold_mem hs, putH_mem, List.mem_cons]
    constructor
    · rintro ((h | ⟨rfl, h⟩) | ⟨h1, h2⟩)
      · exact .inl h
      · exact .inr ⟨.inl rfl, h⟩
      · exact .inr ⟨.inr h1, h2⟩
    · rintro (h | ⟨rfl | h1, h2⟩)
      · exact .inl (.inl h)
      · exact .inl (.inr ⟨rfl, h2⟩)
      · exact .inr ⟨h1, h2⟩
theorem fold_len : ∀ (hs : List Int) (out : List Int), (hs.foldl putH out).length ≤ out.length + hs.length
  | [], out => by simp
  | y :: hs, out => by
    have h1 := fold_len hs (putH out y)
    have h2 := putH_len out y
    rw [List.foldl_cons, List.length_cons]
    omega
/-- Ascending lists of the same numbers are one. -/
theorem asc_unique : ∀ {s t : List Int}, s.Pairwise (· < ·) → t.Pairwise (· < ·) → (∀ x, x ∈ s ↔ x ∈ t) → s = t
  | [], [], _, _, _ => rfl
  | [], y :: t, _, _, h => by have := (h y).2 (by simp); simp at this
  | x :: s, [], _, _, h => by have := (h x).1 (by simp); simp at this
  | x :: s, y :: t, hs, ht, h => by
    have h1 := List.pairwise_cons.1 hs
    have h2 := List.pairwise_cons.1 ht
    have hxy : x = y := by
      have a := (h x).1 (by simp)
      have b := (h y).2 (by simp)
      rw [List.mem_cons] at a b
      rcases a with a | a
      · exact a
      · rcases b with b | b
        · exact b.symm
        · have := h2.1 x a
          have := h1.1 y b
          omega
    subst hxy
    rw [asc_unique h1.2 h2.2 fun z => ?_]
    constructor
    · intro hz
      have := (h z).1 (by simp [hz])
      rw [List.mem_cons] at this
      rcases this with rfl | this
      · have := h1.1 z hz; omega
      · exact this
    · intro hz
      have := (h z).2 (by simp [hz])
      rw [List.mem_cons] at this
      rcases this with rfl | this
      · have := h2.1 z hz; omega
      · exact this
/-- The hours of covers, of signs, of edicts, in the order in which they come. -/
def hrC (cv : List Spn) : Nat → List Int
  | 0 => []
  | k + 1 => hrC cv k ++ [(gp cv k).1, (gp cv k).2]
def hrS (l : List Sgn) : Nat → List Int
  | 0 => []
  | k + 1 => (hrS l k ++ [(gs l k).up, (gs l k).dn]) ++ hrC (gs l k).cv (gs l k).cv.length
def hrE (q : List Edc) : Nat → List Int
  | 0 => []
  | k + 1 => hrE q k ++ [(ge q k).st, (ge q k).en]
def hrs (l : List Sgn) (q : List Edc) : List Int := hrS l l.length ++ hrE q q.length
/-- The moments. -/
def momL (l : List Sgn) (q : List Edc) : List Int := (hrs l q).foldl putH []
theorem hrC_len (cv : List Spn) : ∀ k, (hrC cv k).length = 2 * k
  | 0 => rfl
  | k + 1 => by rw [hrC, List.length_append, hrC_len cv k]; simp; omega
theorem hrS_len {l : List Sgn} (h : ∀ i, i < l.length → (gs l i).cv.length ≤ 10) : ∀ k, k ≤ l.length → (hrS l k).length ≤ 22 * k
  | 0, _ => Nat.le_refl _
  | k + 1, hk => by
    have h1 := hrS_len h k (by omega)
    have h2 := h k (by omega)
    rw [hrS, List.length_append, List.length_append, hrC_len]
    simp
    omega
theorem hrE_len (q : List Edc) : ∀ k, (hrE q k).length = 2 * k
  | 0 => rfl
  | k + 1 => by rw [hrE, List.length_append, hrE_len q k]; simp; omega
theorem hrC_mem {cv : List Spn} {x : Int} : ∀ {k}, x ∈ hrC cv k ↔ ∃ j, j < k ∧ (x = (gp cv j).1 ∨ x = (gp cv j).2)
  | 0 => by simp [hrC]
  | k + 1 => by
    rw [hrC, List.mem_append, hrC_mem]
    simp only [List.mem_cons, List.not_mem_nil, or_false]
    constructor
    · rintro (⟨j, hj, h⟩ | h)
      · exact ⟨j, by omega, h⟩
      · exact ⟨k, by omega, h⟩
    · rintro ⟨j, hj, h⟩
      by_cases e : j = k
      · subst e; exact .inr h
      · exact .inl ⟨j, by omega, h⟩
theorem hrS_mem {l : List Sgn} {x : Int} : ∀ {k}, x ∈ hrS l k ↔ ∃ i, i < k ∧ (x = (gs l i).up ∨ x = (gs l i).dn ∨ ∃ j, j < (gs l i).cv.length ∧ (x = (gp (gs l i).cv j).1 ∨ x = (gp (gs l i).cv j).2))
  | 0 => by simp [hrS]
  | k + 1 => by
    rw [hrS, List.mem_append, List.mem_append, hrS_mem, hrC_mem]
    simp only [List.mem_cons, List.not_mem_nil, or_false]
    constructor
    · rintro ((⟨i, hi, h⟩ | h) | h)
      · exact ⟨i, by omega, h⟩
      · exact ⟨k, by omega, h.elim .inl fun h => .inr (.inl h)⟩
      · exact ⟨k, by omega, .inr (.inr h)⟩
    · rintro ⟨i, hi, h⟩
      by_cases e : i = k
      · subst e
        rcases h with h | h | h
        · exact .inl (.inr (.inl h))
        · exact .inl (.inr (.inr h))
        · exact .inr h
      · exact .inl (.inl ⟨i, by omega, h⟩)
theorem hrE_mem {q : List Edc} {x : Int} : ∀ {k}, x ∈ hrE q k ↔ ∃ i, i < k ∧ (x = (ge q i).st ∨ x = (ge q i).en)
  | 0 => by simp [hrE]
  | k + 1 => by
    rw [hrE, List.mem_append, hrE_mem]
    simp only [List.mem_cons, List.not_mem_nil, or_false]
    constructor
    · rintro (⟨j, hj, h⟩ | h)
      · exact ⟨j, by omega, h⟩
      · exact ⟨k, by omega, h⟩
    · rintro ⟨j, hj, h⟩
      by_cases e : j = k
      · subst e; exact .inr h
      · exact .inl ⟨j, by omega, h⟩
theorem mom_asc (l : List Sgn) (q : List Edc) : (momL l q).Pairwise (· < ·) := fold_asc _ _ List.Pairwise.nil
theorem mom_mem {l : List Sgn} {q : List Edc} {x : Int} : x ∈ momL l q ↔ x ∈ hrs l q ∧ x ≤ 10000000 := by
  unfold momL
  rw [fold_mem]
  simp
end Go.Proofs.YtlpdjinhkmgbgaaGreatDoor

namespace Go.Proofs.YtlpdjinhkmgbgaaGreatDoor
set_option linter.unusedVariables false
set_option linter.unusedSimpArgs false
open Go.RowKit Go.Maps Go.Sort Go.Shelf

theorem sortsI (m : Nat) : AnyZI.SortsIn Tryz.prog Tryz.laysSortedI_ren Fence.wide m :=
  ⟨fun blk off cap ss W hH hblk hsz => callsIn_wide.2 (AnyM.slices_Sort_int Tryz.laysSortI blk off cap ss W hH hblk hsz),
   fun p cap W => callsIn_wide.2 (AnyM.slices_Sort_int_none Tryz.laysSortI p cap W)⟩
theorem keysI_r (mb : Option Nat) (w : World) : Calls Tryz.prog 96 #[.map mb] w fun e w' => e = .returned (.func (.func 124) #[] #[.pointer (some ⟨w.heap.size, 0, none⟩)]) ∧ w' = w.alloc (.cells #[.map mb] 146) :=
  (callsIn_wide (n := 6)).1 (AnyZI.keys_in Tryz.laysKeysI Fence.wide 6 trivial rfl mb w)
set_option maxHeartbeats 1000000 in
/-- The keys of a map of hours, in order. -/
theorem sortedKeys_r (Bm b n : Nat) (S : List Int) (w : World) (h : SetM Tryz.prog 3 4 w b n S) (hn : n ≤ 100000) (hBm : Bm < w.heap.size) (hc : w.cell? ⟨Bm, 0, none⟩ = some (.map (some b))) :
    Calls Tryz.prog 74 #[.func (.func 124) #[] #[.pointer (some ⟨Bm, 0, none⟩)]] w fun e w' => ∃ (a : Option Addr) (c : Nat) (Z : List Int), e = .returned (.slice a Z.length c) ∧
      w'.ownsRow w.heap.size 3 1 (.slice a Z.length c) Z.length (clI Z) ∧ Z.Pairwise (· < ·) ∧ (∀ x, x ∈ Z ↔ x ∈ S) ∧ Below w.heap.size w w' := by
  obtain ⟨D, h1, h2⟩ := h
  have hk : Tryz.prog.underlying 3 = some (.int .i64) := Tryz.underlying3
  obtain ⟨k1, k2, k3⟩ := keys_set h1 h2 hk
  have hseq : SeqGives Fence.wide 3 Tryz.prog 124 #[.pointer (some ⟨Bm, 0, none⟩)] encZ (fun ss => ss.Perm (intKeys D)) (Maps.size D) w :=
    AnyZI.keys_gives (ρ := Tryz.laysKeysI_ren) { Tryz.laysKeysI with } Fence.wide _ trivial rfl (by omega) Bm b n D _ hBm hc h1
  have hmax : Maps.size D ≤ maxLen := by unfold maxLen; omega
  have hbytes : Maps.size D * 8 ≤ 140737488355328 := by omega
  have cS := AnyZI.sorted_in Tryz.laysSortedI Fence.wide 6 trivial trivial trivial trivial rfl (by omega) (sortsI _) (enters_of Tryz.func107 (by kernel_rfl) rfl) 124 #[.pointer (some ⟨Bm, 0, none⟩)] trivial (enters_of Tryz.func124 (by kernel_rfl) rfl) _ _ hmax hbytes w hseq
  change CallsIn _ _ Tryz.prog 74 _ _ _ at cS
  refine ((callsIn_wide (n := 6)).1 cS).mono ?_
  rintro e w' ⟨v, ss, rfl, hp, hown, hnil, hb⟩
  have hsl : (ss.mergeSort fun x y => decide (x ≤ y)).length = ss.length := List.length_mergeSort ss
  have hpm : (ss.mergeSort fun x y => decide (x ≤ y)).Perm (intKeys D) := (List.mergeSort_perm ss _).trans hp
  obtain ⟨a, c, rfl⟩ : ∃ a c, v = .slice a ss.length c := by
    rcases hown.2 with ⟨h8, h9⟩ | ⟨g, cap, cur, h8, _⟩
    · exact ⟨none, 0, by rw [h8, h9]⟩
    · exact ⟨_, _, h8⟩
  have hpw := srt_pw ss
  refine ⟨a, c, ss.mergeSort (fun x y => decide (x ≤ y)), by rw [hsl], by rw [hsl]; exact hown, ?_, fun x => ?_, hb⟩
  · have hnd : (ss.mergeSort fun x y => decide (x ≤ y)).Nodup := hpm.nodup_iff.2 k1
    have : (srt ss).Pairwise (fun x y => x ≤ y ∧ x ≠ y) := hpw.and hnd
    exact this.imp fun h => by omega
  · rw [hpm.mem_iff, k2]
end Go.Proofs.YtlpdjinhkmgbgaaGreatDoor

namespace Go.Proofs.YtlpdjinhkmgbgaaGreatDoor
set_option linter.unusedVariables false
set_option linter.unusedSimpArgs false
open Go.RowKit

/-- Two hours at which the same has begun. -/
def SameH (l : List Sgn) (q : List Edc) (h g : Int) : Prop := ∀ c, c ∈ hrs l q → (c ≤ h ↔ c ≤ g)
theorem sameH_of {l : List Sgn} {q : List Edc} {h g : Int} (h1 : h ≤ 10000000) (g1 : g ≤ 10000000) (H : ∀ c, c ∈ momL l q → (c ≤ h ↔ c ≤ g)) : SameH l q h g := fun c hc => by
  by_cases e : c ≤ 10000000
  · exact H c (mom_mem.2 ⟨hc, e⟩)
  · omega
theorem hrs_sgn {l : List Sgn} {q : List Edc} {i : Nat} (hi : i < l.length) {x : Int} (hx : x = (gs l i).up ∨ x = (gs l i).dn ∨ ∃ j, j < (gs l i).cv.length ∧ (x = (gp (gs l i).cv j).1 ∨ x = (gp (gs l i).cv j).2)) : x ∈ hrs l q := by
  unfold hrs
  rw [List.mem_append]
  exact .inl (hrS_mem.2 ⟨i, hi, hx⟩)
theorem hrs_edc {l : List Sgn} {q : List Edc} {i : Nat} (hi : i < q.length) {x : Int} (hx : x = (ge q i).st ∨ x = (ge q i).en) : x ∈ hrs l q := by
  unfold hrs
  rw [List.mem_append]
  exact .inr (hrE_mem.2 ⟨i, hi, hx⟩)
theorem covH_same {p : Spn} {h g : Int} (h1 : p.1 ≤ h ↔ p.1 ≤ g) (h2 : p.2 ≤ h ↔ p.2 ≤ g) : covH p h = covH p g := by
  unfold covH
  rw [decide_eq_decide.2 h1, decide_eq_decide.2 (show h < p.2 ↔ g < p.2 by omega)]
theorem anyK_eq {p r : Nat → Bool} : ∀ n, (∀ j, j < n → p j = r j) → anyK p n = anyK r n
  | 0, _ => rfl
  | n + 1, h => by
    have ih := anyK_eq n (fun j hj => h j (by omega))
    have e := h n (by omega)
    simp only [anyK] at *
    rw [ih, e]
theorem spk_same {l : List Sgn} {q : List Edc} {h g : Int} (H : SameH l q h g) {i : Nat} (hi : i < l.length) : spkB (gs l i) h = spkB (gs l i) g := by
  unfold spkB
  have h1 := H _ (hrs_sgn hi (.inl rfl))
  have h2 := H _ (hrs_sgn hi (.inr (.inl rfl)))
  rw [decide_eq_decide.2 h1, decide_eq_decide.2 (show h < (gs l i).dn ↔ g < (gs l i).dn by omega), anyK_eq (gs l i).cv.length (fun j hj => covH_same (H _ (hrs_sgn hi (.inr (.inr ⟨j, hj, .inl rfl⟩)))) (H _ (hrs_sgn hi (.inr (.inr ⟨j, hj, .inr rfl⟩)))))]
theorem ins_same {l : List Sgn} {q : List Edc} {h g : Int} (H : SameH l q h g) (L dir : Int) : ∀ k, k ≤ l.length → insR L dir h l k = insR L dir g l k
  | 0, _ => rfl
  | k + 1, hk => by
    have e : selB dir h (gs l k) = selB dir g (gs l k) := by unfold selB; rw [spk_same H (by omega)]
    rw [insR, insR, ins_same H L dir k (by omega), e]
theorem hld_hour {l : List Sgn} {q : List Edc} {h g : Int} (H : SameH l q h g) (L : Int) (js : List Int) (dir t m : Int) : hldV L js l h dir t m = hldV L js l g dir t m := by
  unfold hldV
  rw [ins_same H L dir _ (Nat.le_refl _)]
theorem must_hourK {l : List Sgn} {q : List Edc} {h g : Int} (H : SameH l q h g) (t d m : Int) : ∀ k, k ≤ q.length → mustK q h t d m k = mustK q g t d m k
  | 0, _ => rfl
  | k + 1, hk => by
    have h1 := H _ (hrs_edc (q := q) (i := k) (by omega) (.inl rfl))
    have h2 := H _ (hrs_edc (q := q) (i := k) (by omega) (.inr rfl))
    have e : edB (ge q k) h t d m = edB (ge q k) g t d m := by
      unfold edB
      rw [decide_eq_decide.2 h1, decide_eq_decide.2 (show h < (ge q k).en ↔ g < (ge q k).en by omega)]
    rw [mustK, mustK, must_hourK H t d m k (by omega), e]
theorem must_hour {l : List Sgn} {q : List Edc} {h g : Int} (H : SameH l q h g) (t d m : Int) : mustV q h t d m = mustV q g t d m := by
  unfold mustV
  rw [must_hourK H t d m _ (Nat.le_refl _)]
/-- Where the law's from and to stand behind the first k moments. -/
def frK (z : List Int) (h : Int) : Nat → Int
  | 0 => 0
  | k + 1 => if gi z k ≤ h then gi z k else frK z h k
def toK (z : List Int) (h : Int) : Nat → Int
  | 0 => 10000000
  | k + 1 => if gi z k ≤ h then toK z h k else min (toK z h k) (gi z k - 1)
theorem fr_yes {z : List Int} {h : Int} {k : Nat} (e : gi z k ≤ h) : frK z h (k + 1) = gi z k ∧ toK z h (k + 1) = toK z h k := by rw [frK, toK, if_pos e, if_pos e]; exact ⟨rfl, rfl⟩
theorem fr_no {z : List Int} {h : Int} {k : Nat} (e : ¬ gi z k ≤ h) : frK z h (k + 1) = frK z h k ∧ toK z h (k + 1) = min (toK z h k) (gi z k - 1) := by rw [frK, toK, if_neg e, if_neg e]; exact ⟨rfl, rfl⟩
theorem fr_spec {z : List Int} {h : Int} (hs : z.Pairwise (· < ·)) (hz : ∀ c, c ∈ z → 0 ≤ c ∧ c ≤ 10000000) (h0 : 0 ≤ h) (h1 : h ≤ 10000000) : ∀ k, k ≤ z.length →
    (0 ≤ frK z h k ∧ frK z h k ≤ h ∧ h ≤ toK z h k ∧ toK z h k ≤ 10000000) ∧ (∀ i, i < k → gi z i ≤ h → gi z i ≤ frK z h k) ∧ (∀ i, i < k → h < gi z i → toK z h k < gi z i)
  | 0, _ => ⟨⟨Int.le_refl _, h0, h1, Int.le_refl _⟩, fun i hi => absurd hi (Nat.not_lt_zero _), fun i hi => absurd hi (Nat.not_lt_zero _)⟩
  | k + 1, hk => by
    obtain ⟨⟨a1, a2, a3, a4⟩, a5, a6⟩ := fr_spec hs hz h0 h1 k (by omega)
    have hb := hz (gi z k) (gi_mem (by omega))
    have hlt : ∀ i, i < k → gi z i < gi z k := fun i hi => by
      have := (List.pairwise_iff_getElem.1 hs) i k (by omega) (by omega) hi
      rwa [← gi_at _ (by omega), ← gi_at _ (by omega)] at this
    by_cases e : gi z k ≤ h
    · rw [(fr_yes e).1, (fr_yes e).2]
      refine ⟨⟨hb.1, e, a3, a4⟩, fun i hi h9 => ?_, fun i hi h9 => ?_⟩
      · by_cases ei : i = k
        · rw [ei]; exact Int.le_refl _
        · have := hlt i (by omega); omega
      · by_cases ei : i = k
        · rw [ei] at h9; omega
        · exact a6 i (by omega) h9
    · rw [(fr_no e).1, (fr_no e).2]
      refine ⟨⟨a1, a2, by omega, by omega⟩, fun i hi h9 => ?_, fun i hi h9 => ?_⟩
      · by_cases ei : i = k
        · rw [ei] at h9; exact absurd h9 e
        · exact a5 i (by omega) h9
      · by_cases ei : i = k
        · rw [ei]; omega
        · have := a6 i (by omega) h9
          omega
theorem mom_in {l : List Sgn} {q : List Edc} (hb : ∀ x, x ∈ hrs l q → 0 ≤ x) {c : Int} (h : c ∈ momL l q) : 0 ≤ c ∧ c ≤ 10000000 := by
  have := mom_mem.1 h
  exact ⟨hb c this.1, this.2⟩
theorem mom_same {l : List Sgn} {q : List Edc} {h o : Int} (hb : ∀ x, x ∈ hrs l q → 0 ≤ x) (h0 : 0 ≤ h) (h1 : h ≤ 10000000) (o0 : frK (momL l q) h (momL l q).length ≤ o) (o1 : o ≤ toK (momL l q) h (momL l q).length) : SameH l q h o := by
  obtain ⟨⟨a1, a2, a3, a4⟩, a5, a6⟩ := fr_spec (mom_asc l q) (fun c hc => mom_in hb hc) h0 h1 (momL l q).length (Nat.le_refl _)
  refine sameH_of h1 (by omega) fun c hc => ?_
  obtain ⟨i, hi, rfl⟩ := List.getElem_of_mem hc
  rw [← gi_at _ hi]
  by_cases e : gi (momL l q) i ≤ h
  · have := a5 i hi e
    constructor <;> intro <;> omega
  · have := a6 i hi (by omega)
    constructor <;> intro <;> omega
/-- The hours of good lists. -/
theorem time_ge {x y : Int} (h : timeB x y = true) : 0 ≤ x ∧ x < y ∧ y ≤ 10000001 := by
  unfold timeB at h
  simp only [Bool.and_eq_true, decide_eq_true_eq] at h
  omega
theorem hrs_in {L : Int} {js : List Int} {l : List Sgn} {q : List Edc} (h1 : sgnsB L js l = true) (h2 : edcsB L js q = true) {x : Int} (hx : x ∈ hrs l q) : 0 ≤ x ∧ x ≤ 10000001 := by
  unfold hrs at hx
  rw [List.mem_append] at hx
  rcases hx with hx | hx
  · obtain ⟨i, hi, hx⟩ := hrS_mem.1 hx
    have hs := sgn_in h1 i hi
    unfold sgnB at hs
    simp only [Bool.and_eq_true, decide_eq_true_eq] at hs
    have ht := time_ge hs.1.1.2
    rcases hx with rfl | rfl | ⟨j, hj, hx⟩
    · omega
    · omega
    · have hc := hs.2
      unfold covB at hc
      simp only [Bool.not_eq_true'] at hc
      have hc2 := (anyK_iff _).1 hc j hj
      simp only [Bool.not_eq_false'] at hc2
      have := time_ge hc2
      omega
  · obtain ⟨i, hi, hx⟩ := hrE_mem.1 hx
    have hs := edc_in h2 i hi
    unfold edcB at hs
    simp only [Bool.and_eq_true, decide_eq_true_eq] at hs
    have ht := time_ge hs.2
    omega
end Go.Proofs.YtlpdjinhkmgbgaaGreatDoor

namespace Go.Proofs.YtlpdjinhkmgbgaaGreatDoor
set_option linter.unusedVariables false
set_option linter.unusedSimpArgs false
open Go.RowKit

/-- What moments returns. -/
def MomE (Z : List Int) (w : World) (e : Ending) (w' : World) : Prop :=
  ∃ a c, e = .returned (.slice a Z.length c) ∧ w'.ownsRow w.heap.size 3 1 (.slice a Z.length c) Z.length (clI Z) ∧ Below w.heap.size w w'
theorem wf_hour {y : Int} (h : 0 ≤ y ∧ y ≤ 10000001) : (Lit.int .i64 y).wf = true := by
  show (decide (IntKind.i64.min ≤ y) && decide (y ≤ IntKind.i64.max)) = true
  rw [decide_eq_true, decide_eq_true]
  · rfl
  · have : IntKind.i64.max = 9223372036854775807 := rfl
    omega
  · have : IntKind.i64.min = -9223372036854775808 := rfl
    omega
theorem mom_unique {l : List Sgn} {q : List Edc} {Z S : List Int} (hb : ∀ x, x ∈ hrs l q → 0 ≤ x ∧ x ≤ 10000001) (hp : Z.Pairwise (· < ·)) (h1 : ∀ x, x ∈ Z ↔ x ∈ S.filter (fun z => z != 10000001)) (h2 : ∀ x, x ∈ S ↔ x ∈ hrs l q) : Z = momL l q := by
  refine asc_unique hp (mom_asc l q) fun x => ?_
  rw [h1, List.mem_filter, h2, mom_mem]
  constructor
  · rintro ⟨a, b⟩
    have := hb x a
    have : x ≠ 10000001 := by simpa using b
    exact ⟨a, by omega⟩
  · rintro ⟨a, b⟩
    have : x ≠ 10000001 := by omega
    exact ⟨a, by simpa using this⟩
theorem own_base {w : World} {b b' : Nat} {T : TypeId} {z : Nat} {v : Value} {n : Nat} {xs : List Value} (h : w.ownsRow b T z v n xs) (hb : b' ≤ b) : w.ownsRow b' T z v n xs := owns_baseI h hb
set_option linter.unnecessarySimpa false
set_option maxRecDepth 100000 in
set_option maxHeartbeats 4000000 in
theorem moments_r (aa : Option Addr) (l : List Sgn) (cl : Nat) (ae : Option Addr) (q : List Edc) (cq : Nat) (hl : l.length ≤ 100) (hcv : ∀ i, i < l.length → (gs l i).cv.length ≤ 10) (hq : q.length ≤ 50) (hh : ∀ x, x ∈ hrs l q → 0 ≤ x ∧ x ≤ 10000001) (w : World) (hA : SgnS w aa l) (hE : EdS w ae q) :
    Calls Tryz.prog 55 #[.slice aa l.length cl, .slice ae q.length cq] w (MomE (momL l q) w) := by
  obtain ⟨hlen, blk, off, ad, cp, hadr, hc⟩ := hA
  obtain ⟨hlen2, blk2, off2, hadr2, hc2⟩ := hE
  have HC := Lib.hid hc
  have HL : Hid (0 < l.length → aa = some ⟨blk, off, none⟩) := Lib.hid fun h => hadr (List.ne_nil_of_length_pos h)
  have HC2 := Lib.hid hc2
  have HL2 : Hid (0 < q.length → ae = some ⟨blk2, off2, none⟩) := Lib.hid fun h => hadr2 (List.ne_nil_of_length_pos h)
  have HV := Lib.hid hcv
  have HH := Lib.hid hh
  have HHs : Hid (∀ k, k < l.length → (0 ≤ (gs l k).up ∧ (gs l k).up ≤ 10000001) ∧ (0 ≤ (gs l k).dn ∧ (gs l k).dn ≤ 10000001) ∧ ∀ j, j < (gs l k).cv.length → (0 ≤ (gp (gs l k).cv j).1 ∧ (gp (gs l k).cv j).1 ≤ 10000001) ∧ (0 ≤ (gp (gs l k).cv j).2 ∧ (gp (gs l k).cv j).2 ≤ 10000001)) := Lib.hid fun k hk => ⟨hh _ (hrs_sgn hk (.inl rfl)), hh _ (hrs_sgn hk (.inr (.inl rfl))), fun j hj => ⟨hh _ (hrs_sgn hk (.inr (.inr ⟨j, hj, .inl rfl⟩))), hh _ (hrs_sgn hk (.inr (.inr ⟨j, hj, .inr rfl⟩)))⟩⟩
  have HHe : Hid (∀ k, k < q.length → (0 ≤ (ge q k).st ∧ (ge q k).st ≤ 10000001) ∧ (0 ≤ (ge q k).en ∧ (ge q k).en ≤ 10000001)) := Lib.hid fun k hk => ⟨hh _ (hrs_edc hk (.inl rfl)), hh _ (hrs_edc hk (.inr rfl))⟩
  have HLL := Lib.hid hl
  have HQL := Lib.hid hq
  clear hadr hc hadr2 hc2 hcv hh
  have hmm := @run_makeMap Tryz.prog
  have HM0 := Lib.hid (SetM.made Tryz.prog 3 4 w)
  go_enter Tryz.func55, Tryz.ntmps55
  go_wp2_with fail
  go_loopw [15] (fun i wr => ∃ (k n : Nat) (S : List Int), k ≤ l.length ∧ i = .int .i64 k ∧ Below w.heap.size w wr ∧ Hid (SetM Tryz.prog 3 4 wr w.heap.size n (S)) ∧ Hid (n ≤ 22 * k) ∧ Hid (∀ x, x ∈ S ↔ x ∈ hrS l k)) (fun i _ => l.length - (intOf i).toNat)
  case atStart => exact ⟨0, 0, [], Nat.zero_le _, rfl, (Below.refl _ _).alloc (Nat.le_refl _) _, HM0, Lib.hid (Nat.le_refl _), Lib.hid (fun x => by simp [hrS])⟩
  case round =>
    obtain ⟨k, n, S, hk, rfl, hb, HSM, HN, HS⟩ := hrel
    clear hmm HM0
    by_cases hlt : k < l.length
    · obtain rfl := HL.out (by omega)
      obtain ⟨⟨c0, c1, c2, c3, c4, c5, c6, c7⟩, c8, hP⟩ := HC.out k hlt
      replace c0 := cell_below c0 hb
      replace c1 := cell_below c1 hb
      replace c2 := cell_below c2 hb
      replace c3 := cell_below c3 hb
      replace c4 := cell_below c4 hb
      replace c5 := cell_below c5 hb
      replace c6 := cell_below c6 hb
      replace c7 := cell_below c7 hb
      replace c8 := cell_below c8 hb
      obtain ⟨hu, hd, hcs⟩ := HHs.out k hlt
      have hcl := HV.out k hlt
      have HSx : Hid (hrS l (k + 1) = (hrS l k ++ [(gs l k).up, (gs l k).dn]) ++ hrC (gs l k).cv (gs l k).cv.length) := Lib.hid rfl
      have hn := HN.out
      have hl9 := HLL.out
      clear HC HL HHs HV HH HC2 HL2 HHe HN
      generalize ad k = adk at *
      generalize cp k = cpk at *
      generalize gs l k = x at *
      obtain ⟨up, hup⟩ : ∃ u, x.up = u := ⟨_, rfl⟩
      obtain ⟨dn, hdn⟩ : ∃ u, x.dn = u := ⟨_, rfl⟩
      obtain ⟨cv, hcvx⟩ : ∃ u, x.cv = u := ⟨_, rfl⟩
      rw [hup] at c6 hu HSx
      rw [hdn] at c7 hd HSx
      rw [hcvx] at c8 hP hcs hcl HSx
      clear hup hdn hcvx
      obtain ⟨hpl, -, pb, po, hpa, hpc⟩ := hP
      have HPC := Lib.hid hpc
      have HPA : Hid (0 < cv.length → adk = some ⟨pb, po, none⟩) := Lib.hid fun h => hpa (List.ne_nil_of_length_pos h)
      have HCS := Lib.hid hcs
      have Hu := Lib.hid (wf_hour hu)
      have Hd := Lib.hid (wf_hour hd)
      clear hpa hpc hcs hu hd
      go_upto_region 5 with (fail)
      obtain ⟨wB, hwB⟩ : ∃ wB, wr.alloc (.cells #[.int .i64 x.n, .int .i64 x.k, .int .i64 x.v, .int .i64 x.c, .int .i64 x.d, .int .i64 x.rk, .int .i64 up, .int .i64 dn, .slice adk cv.length cpk] 69) = wB := ⟨_, rfl⟩
      have HNE : Hid (wr.heap.size ≠ w.heap.size) := Lib.hid (by have := HSM.out.lt; omega)
      replace HSM := Lib.hid (hwB ▸ HSM.out.alloc (.cells #[.int .i64 x.n, .int .i64 x.k, .int .i64 x.v, .int .i64 x.c, .int .i64 x.d, .int .i64 x.rk, .int .i64 up, .int .i64 dn, .slice adk cv.length cpk] 69))
      have hbB : Below w.heap.size w wB := by rw [← hwB]; exact hb.alloc hb.size _
      have x0 : wB.cell? ⟨wr.heap.size, 0, none⟩ = some (.int .i64 x.n) := by rw [← hwB]; simp [go_sem]
      have x1 : wB.cell? ⟨wr.heap.size, 1, none⟩ = some (.int .i64 x.k) := by rw [← hwB]; simp [go_sem]
      have x2 : wB.cell? ⟨wr.heap.size, 2, none⟩ = some (.int .i64 x.v) := by rw [← hwB]; simp [go_sem]
      have x3 : wB.cell? ⟨wr.heap.size, 3, none⟩ = some (.int .i64 x.c) := by rw [← hwB]; simp [go_sem]
      have x4 : wB.cell? ⟨wr.heap.size, 4, none⟩ = some (.int .i64 x.d) := by rw [← hwB]; simp [go_sem]
      have x5 : wB.cell? ⟨wr.heap.size, 5, none⟩ = some (.int .i64 x.rk) := by rw [← hwB]; simp [go_sem]
      have x6 : wB.cell? ⟨wr.heap.size, 6, none⟩ = some (.int .i64 up) := by rw [← hwB]; simp [go_sem]
      have x7 : wB.cell? ⟨wr.heap.size, 7, none⟩ = some (.int .i64 dn) := by rw [← hwB]; simp [go_sem]
      have x8 : wB.cell? ⟨wr.heap.size, 8, none⟩ = some (.slice adk cv.length cpk) := by rw [← hwB]; simp [go_sem]
      rw [hwB]
      have hzB : wr.heap.size < wB.heap.size := by rw [← hwB]; simp
      clear hwB
      clear c0 c1 c2 c3 c4 c5 c6 c7 c8
      refine wp_region_held_drew (S := fun w' => wB.grownBy w' (some w.heap.size)) (by kernel_rfl) ((World.grownBy.refl wB _).trans ⟨rfl, rfl, rfl, Nat.le_refl _, fun _ _ _ => rfl⟩) (fun hHeld => ?_)
      refine takeU (i := 0) (some 19) (.map (some w.heap.size)) (by kernel_rfl) (by kernel_rfl) (by kernel_rfl) (by kernel_rfl) (by kernel_rfl) (fun _ => by kernel_rfl) (fun _ _ _ h => h) hHeld ?_
      refine takeU (i := 1) (some 20) (.pointer (some ⟨wr.heap.size, 6, none⟩)) (by kernel_rfl) (by kernel_rfl) (by kernel_rfl) (by kernel_rfl) (by kernel_rfl) (fun _ => by kernel_rfl) (fun _ _ _ h => h) hHeld ?_
      refine wpAnyH_take (i := 2) (oi := { dst := some 21, op := Go.Op.load 3 (Go.Operand.tmp 20), type := 3, pos := "hours.go:22", after := #[{ on := 1, ground := Go.Ground.data }], guard := none }) (v := .int .i64 up) rfl (by kernel_rfl) (by kernel_rfl) (by kernel_rfl) (fun _ _ _ h => h) (.inl ⟨by kernel_rfl, fun w9 h9 => by
        clear hHeld
        have d0 := h9.cell (a := ⟨wr.heap.size, 6, none⟩) x6 (fun e => HNE.out (Option.some.inj e))
        clear h9
        go_simp⟩) hHeld ?_
      refine takeU (i := 3) (some 22) (.map (some w.heap.size)) (by kernel_rfl) (by kernel_rfl) (by kernel_rfl) (by kernel_rfl) (by kernel_rfl) (fun _ => by kernel_rfl) (fun _ _ _ h => h) hHeld ?_
      refine takeU (i := 4) (some 23) (.pointer (some ⟨wr.heap.size, 7, none⟩)) (by kernel_rfl) (by kernel_rfl) (by kernel_rfl) (by kernel_rfl) (by kernel_rfl) (fun _ => by kernel_rfl) (fun _ _ _ h => h) hHeld ?_
      refine wpAnyH_take (i := 5) (oi := { dst := some 24, op := Go.Op.load 3 (Go.Operand.tmp 23), type := 3, pos := "hours.go:22", after := #[{ on := 4, ground := Go.Ground.data }, { on := 6, ground := Go.Ground.gcOnly Go.Departure.lateStores }], guard := none }) (v := .int .i64 dn) rfl (by kernel_rfl) (by kernel_rfl) (by kernel_rfl) (fun _ _ _ h => h) (.inl ⟨by kernel_rfl, fun w9 h9 => by
        clear hHeld
        have d0 := h9.cell (a := ⟨wr.heap.size, 7, none⟩) x7 (fun e => HNE.out (Option.some.inj e))
        clear h9
        go_simp⟩) hHeld ?_
      try simp only [Act.put, List.setIfInBounds_toArray, List.set_cons_zero, List.set_cons_succ]
      refine wpAnyH_ready (rs := [6]) (by kernel_rfl) (by simp) ?_
      refine AllReadyH.cons (o := { dst := none, op := Go.Op.mapUpdate 146 (Go.Operand.tmp 19) (Go.Operand.tmp 21) (Go.Operand.const (Go.Value.bool true)), type := 0, pos := "hours.go:22", after := #[{ on := 0, ground := Go.Ground.data }, { on := 2, ground := Go.Ground.data }, { on := 0, ground := Go.Ground.phase }, { on := 1, ground := Go.Ground.phase }, { on := 2, ground := Go.Ground.phase }, { on := 3, ground := Go.Ground.textOnly Go.Departure.lateStores }, { on := 4, ground := Go.Ground.textOnly Go.Departure.lateStores }, { on := 5, ground := Go.Ground.textOnly Go.Departure.lateStores }], guard := none }) rfl (fun K hK => ?_) AllReadyH.nil
      refine step_putS rfl _ _ _ rfl (by rfl) (HSM.out.same rfl) Tryz.underlying3 Tryz.underlying146 Tryz.underlying4 (up) true (by rfl) (by rfl) Hu.out (by unfold maxLen; omega) ?_
      intro w6 hs6 hg6
      refine hK.out _ _ (hHeld.trans hg6) (fun hHeld => ?_)
      have HS6 := Lib.hid hs6
      clear hK K hg6 hs6
      try simp only [Act.put, List.setIfInBounds_toArray, List.set_cons_zero, List.set_cons_succ]
      try simp only [Act.put, List.setIfInBounds_toArray, List.set_cons_zero, List.set_cons_succ]
      refine wpAnyH_ready (rs := [7]) (by kernel_rfl) (by simp) ?_
      refine AllReadyH.cons (o := { dst := none, op := Go.Op.mapUpdate 146 (Go.Operand.tmp 22) (Go.Operand.tmp 24) (Go.Operand.const (Go.Value.bool true)), type := 0, pos := "hours.go:22", after := #[{ on := 3, ground := Go.Ground.data }, { on := 5, ground := Go.Ground.data }, { on := 6, ground := Go.Ground.chain }, { on := 0, ground := Go.Ground.phase }, { on := 1, ground := Go.Ground.phase }, { on := 2, ground := Go.Ground.phase }, { on := 3, ground := Go.Ground.phase }, { on := 4, ground := Go.Ground.phase }, { on := 5, ground := Go.Ground.phase }, { on := 6, ground := Go.Ground.phase }], guard := none }) rfl (fun K hK => ?_) AllReadyH.nil
      refine step_putS rfl _ _ _ rfl (by rfl) HS6.out Tryz.underlying3 Tryz.underlying146 Tryz.underlying4 (dn) true (by rfl) (by rfl) Hd.out (by unfold maxLen; omega) ?_
      intro w7 hs6 hg6
      refine hK.out _ _ (hHeld.trans hg6) (fun hHeld => ?_)
      have HS7 := Lib.hid hs6
      clear hK K hg6 hs6
      try simp only [Act.put, List.setIfInBounds_toArray, List.set_cons_zero, List.set_cons_succ]
      refine wpAnyH_done (by kernel_rfl) ?_ _
      try simp only [Act.put, List.setIfInBounds_toArray, List.set_cons_zero, List.set_cons_succ]
      have x8 := hHeld.cell x8 (fun e => HNE.out (Option.some.inj e))
      have hb7 := hbB.grown hHeld (by have := hbB.size; exact this) (fun z hz => Nat.le_of_eq (Option.some.inj hz))
      clear hHeld HS6 HSM hbB x0 x1 x2 x3 x4 x5 x6 x7 hzB HNE
      go_wp2_with fail
      go_loopw [28] (fun i wr => ∃ (j n2 : Nat) (S2 : List Int), j ≤ cv.length ∧ i = .int .i64 j ∧ Below w.heap.size w wr ∧ Hid (SetM Tryz.prog 3 4 wr w.heap.size n2 (S2)) ∧ Hid (n2 ≤ n + 2 + 2 * j) ∧ Hid (∀ x, x ∈ S2 ↔ x ∈ hrS l k ∨ x = up ∨ x = dn ∨ x ∈ hrC cv j)) (fun i _ => cv.length - (intOf i).toNat)
      case atStart => exact ⟨0, n + 2, _, Nat.zero_le _, rfl, hb7, HS7, Lib.hid (by omega), Lib.hid (fun z => by rw [List.mem_append, List.mem_append, HS.out]; simp [hrC, or_assoc])⟩
      case round =>
        obtain ⟨j, n2, S2, hj, rfl, hb, HSM, HN, HS2⟩ := hrel
        by_cases hjl : j < cv.length
        · obtain rfl := HPA.out (by omega)
          obtain ⟨c0, c1⟩ := HPC.out j hjl
          replace c0 := cell_below c0 hb
          replace c1 := cell_below c1 hb
          obtain ⟨hu, hd⟩ := HCS.out j hjl
          have HSx : Hid (hrC cv (j + 1) = hrC cv j ++ [(gp cv j).1, (gp cv j).2]) := Lib.hid rfl
          have hn2 := HN.out
          clear HPA HPC HCS HN Hu Hd
          generalize (gp cv j).1 = p1 at *
          generalize (gp cv j).2 = p2 at *
          have Hu := Lib.hid (wf_hour hu)
          have Hd := Lib.hid (wf_hour hd)
          clear hu hd
          go_upto_region 9 with (fail)
          obtain ⟨wB, hwB⟩ : ∃ wB, wr.alloc (.cells #[.int .i64 p1, .int .i64 p2] 86) = wB := ⟨_, rfl⟩
          have HNE : Hid (wr.heap.size ≠ w.heap.size) := Lib.hid (by have := HSM.out.lt; omega)
          replace HSM := Lib.hid (hwB ▸ HSM.out.alloc (.cells #[.int .i64 p1, .int .i64 p2] 86))
          have hbB : Below w.heap.size w wB := by rw [← hwB]; exact hb.alloc hb.size _
          have x0 : wB.cell? ⟨wr.heap.size, 0, none⟩ = some (.int .i64 p1) := by rw [← hwB]; simp [go_sem]
          have x1 : wB.cell? ⟨wr.heap.size, 1, none⟩ = some (.int .i64 p2) := by rw [← hwB]; simp [go_sem]
          rw [hwB]
          have hzB : wr.heap.size < wB.heap.size := by rw [← hwB]; simp
          clear hwB
          clear c0 c1
          refine wp_region_held_drew (S := fun w' => wB.grownBy w' (some w.heap.size)) (by kernel_rfl) ((World.grownBy.refl wB _).trans ⟨rfl, rfl, rfl, Nat.le_refl _, fun _ _ _ => rfl⟩) (fun hHeld => ?_)
          refine takeU (i := 0) (some 32) (.map (some w.heap.size)) (by kernel_rfl) (by kernel_rfl) (by kernel_rfl) (by kernel_rfl) (by kernel_rfl) (fun _ => by kernel_rfl) (fun _ _ _ h => h) hHeld ?_
          refine takeU (i := 1) (some 33) (.pointer (some ⟨wr.heap.size, 0, none⟩)) (by kernel_rfl) (by kernel_rfl) (by kernel_rfl) (by kernel_rfl) (by kernel_rfl) (fun _ => by kernel_rfl) (fun _ _ _ h => h) hHeld ?_
          refine wpAnyH_take (i := 2) (oi := { dst := some 34, op := Go.Op.load 3 (Go.Operand.tmp 33), type := 3, pos := "hours.go:24", after := #[{ on := 1, ground := Go.Ground.data }], guard := none }) (v := .int .i64 p1) rfl (by kernel_rfl) (by kernel_rfl) (by kernel_rfl) (fun _ _ _ h => h) (.inl ⟨by kernel_rfl, fun w9 h9 => by
            clear hHeld
            have d0 := h9.cell (a := ⟨wr.heap.size, 0, none⟩) x0 (fun e => HNE.out (Option.some.inj e))
            clear h9
            go_simp⟩) hHeld ?_
          refine takeU (i := 3) (some 35) (.map (some w.heap.size)) (by kernel_rfl) (by kernel_rfl) (by kernel_rfl) (by kernel_rfl) (by kernel_rfl) (fun _ => by kernel_rfl) (fun _ _ _ h => h) hHeld ?_
          refine takeU (i := 4) (some 36) (.pointer (some ⟨wr.heap.size, 1, none⟩)) (by kernel_rfl) (by kernel_rfl) (by kernel_rfl) (by kernel_rfl) (by kernel_rfl) (fun _ => by kernel_rfl) (fun _ _ _ h => h) hHeld ?_
          refine wpAnyH_take (i := 5) (oi := { dst := some 37, op := Go.Op.load 3 (Go.Operand.tmp 36), type := 3, pos := "hours.go:24", after := #[{ on := 4, ground := Go.Ground.data }, { on := 6, ground := Go.Ground.gcOnly Go.Departure.lateStores }], guard := none }) (v := .int .i64 p2) rfl (by kernel_rfl) (by kernel_rfl) (by kernel_rfl) (fun _ _ _ h => h) (.inl ⟨by kernel_rfl, fun w9 h9 => by
            clear hHeld
            have d0 := h9.cell (a := ⟨wr.heap.size, 1, none⟩) x1 (fun e => HNE.out (Option.some.inj e))
            clear h9
            go_simp⟩) hHeld ?_
          try simp only [Act.put, List.setIfInBounds_toArray, List.set_cons_zero, List.set_cons_succ]
          refine wpAnyH_ready (rs := [6]) (by kernel_rfl) (by simp) ?_
          refine AllReadyH.cons (o := { dst := none, op := Go.Op.mapUpdate 146 (Go.Operand.tmp 32) (Go.Operand.tmp 34) (Go.Operand.const (Go.Value.bool true)), type := 0, pos := "hours.go:24", after := #[{ on := 0, ground := Go.Ground.data }, { on := 2, ground := Go.Ground.data }, { on := 0, ground := Go.Ground.phase }, { on := 1, ground := Go.Ground.phase }, { on := 2, ground := Go.Ground.phase }, { on := 3, ground := Go.Ground.textOnly Go.Departure.lateStores }, { on := 4, ground := Go.Ground.textOnly Go.Departure.lateStores }, { on := 5, ground := Go.Ground.textOnly Go.Departure.lateStores }], guard := none }) rfl (fun K hK => ?_) AllReadyH.nil
          refine step_putS rfl _ _ _ rfl (by rfl) (HSM.out.same rfl) Tryz.underlying3 Tryz.underlying146 Tryz.underlying4 (p1) true (by rfl) (by rfl) Hu.out (by unfold maxLen; omega) ?_
          intro w6 hs6 hg6
          refine hK.out _ _ (hHeld.trans hg6) (fun hHeld => ?_)
          have HS6 := Lib.hid hs6
          clear hK K hg6 hs6
          try simp only [Act.put, List.setIfInBounds_toArray, List.set_cons_zero, List.set_cons_succ]
          try simp only [Act.put, List.setIfInBounds_toArray, List.set_cons_zero, List.set_cons_succ]
          refine wpAnyH_ready (rs := [7]) (by kernel_rfl) (by simp) ?_
          refine AllReadyH.cons (o := { dst := none, op := Go.Op.mapUpdate 146 (Go.Operand.tmp 35) (Go.Operand.tmp 37) (Go.Operand.const (Go.Value.bool true)), type := 0, pos := "hours.go:24", after := #[{ on := 3, ground := Go.Ground.data }, { on := 5, ground := Go.Ground.data }, { on := 6, ground := Go.Ground.chain }, { on := 0, ground := Go.Ground.phase }, { on := 1, ground := Go.Ground.phase }, { on := 2, ground := Go.Ground.phase }, { on := 3, ground := Go.Ground.phase }, { on := 4, ground := Go.Ground.phase }, { on := 5, ground := Go.Ground.phase }, { on := 6, ground := Go.Ground.phase }], guard := none }) rfl (fun K hK => ?_) AllReadyH.nil
          refine step_putS rfl _ _ _ rfl (by rfl) HS6.out Tryz.underlying3 Tryz.underlying146 Tryz.underlying4 (p2) true (by rfl) (by rfl) Hd.out (by unfold maxLen; omega) ?_
          intro w7 hs6 hg6
          refine hK.out _ _ (hHeld.trans hg6) (fun hHeld => ?_)
          have HS7 := Lib.hid hs6
          clear hK K hg6 hs6
          try simp only [Act.put, List.setIfInBounds_toArray, List.set_cons_zero, List.set_cons_succ]
          refine wpAnyH_done (by kernel_rfl) ?_ _
          try simp only [Act.put, List.setIfInBounds_toArray, List.set_cons_zero, List.set_cons_succ]
          have hb7 := hbB.grown hHeld (by have := hbB.size; exact this) (fun z hz => Nat.le_of_eq (Option.some.inj hz))
          clear hHeld HS6 HSM hbB x0 x1 hzB HNE
          go_wp2_with fail
          go_roundw
          case rel => exact ⟨j + 1, n2 + 2, _, by omega, by go_num, hb7, HS7, Lib.hid (by omega), Lib.hid (fun z => by rw [List.mem_append, List.mem_append, HS2.out, HSx.out, List.mem_append]; simp [or_assoc])⟩
          case measure => simp [intOf]; omega
        · obtain rfl : j = cv.length := by omega
          have hn2 := HN.out
          clear HN
          go_wp2_with fail
          go_roundw
          case rel => exact ⟨k + 1, n2, S2, by omega, by go_num, hb, HSM, Lib.hid (by omega), Lib.hid (fun z => by rw [HS2.out, HSx.out, List.mem_append, List.mem_append]; simp [or_assoc])⟩
          case measure => simp [intOf]; omega
    · obtain rfl : k = l.length := by omega
      have hn := HN.out
      have hl9 := HLL.out
      have HSl := HS
      clear HN HC HL HHs HV HS
      go_wp2_with fail
      go_loopw [42] (fun i wr => ∃ (k n : Nat) (S : List Int), k ≤ q.length ∧ i = .int .i64 k ∧ Below w.heap.size w wr ∧ Hid (SetM Tryz.prog 3 4 wr w.heap.size n (S)) ∧ Hid (n ≤ 2200 + 2 * k) ∧ Hid (∀ x, x ∈ S ↔ x ∈ hrS l l.length ∨ x ∈ hrE q k)) (fun i _ => q.length - (intOf i).toNat)
      case atStart => exact ⟨0, n, S, Nat.zero_le _, rfl, hb, HSM, Lib.hid (by omega), Lib.hid (fun x => by rw [HSl.out]; simp [hrE])⟩
      case round =>
        obtain ⟨k, n, S, hk, rfl, hb, HSM, HN, HS⟩ := hrel
        clear HSl
        by_cases hlt : k < q.length
        · obtain rfl := HL2.out (by omega)
          obtain ⟨c0, c1, c2, c3, c4, c5, c6, c7⟩ := HC2.out k hlt
          replace c0 := cell_below c0 hb
          replace c1 := cell_below c1 hb
          replace c2 := cell_below c2 hb
          replace c3 := cell_below c3 hb
          replace c4 := cell_below c4 hb
          replace c5 := cell_below c5 hb
          replace c6 := cell_below c6 hb
          replace c7 := cell_below c7 hb
          obtain ⟨hu, hd⟩ := HHe.out k hlt
          have HSx : Hid (hrE q (k + 1) = hrE q k ++ [(ge q k).st, (ge q k).en]) := Lib.hid rfl
          have hn := HN.out
          have hq9 := HQL.out
          clear HC2 HL2 HHe HN HH
          generalize ge q k = y at *
          obtain ⟨st, hup⟩ : ∃ u, y.st = u := ⟨_, rfl⟩
          obtain ⟨en, hdn⟩ : ∃ u, y.en = u := ⟨_, rfl⟩
          rw [hup] at c6 hu HSx
          rw [hdn] at c7 hd HSx
          clear hup hdn
          have Hu := Lib.hid (wf_hour hu)
          have Hd := Lib.hid (wf_hour hd)
          clear hu hd
          go_upto_region 15 with (fail)
          obtain ⟨wB, hwB⟩ : ∃ wB, wr.alloc (.cells #[.int .i64 y.n, .int .i64 y.tp, .int .i64 y.v, .int .i64 y.d, .int .i64 y.fr, .int .i64 y.tt, .int .i64 st, .int .i64 en] 126) = wB := ⟨_, rfl⟩
          have HNE : Hid (wr.heap.size ≠ w.heap.size) := Lib.hid (by have := HSM.out.lt; omega)
          replace HSM := Lib.hid (hwB ▸ HSM.out.alloc (.cells #[.int .i64 y.n, .int .i64 y.tp, .int .i64 y.v, .int .i64 y.d, .int .i64 y.fr, .int .i64 y.tt, .int .i64 st, .int .i64 en] 126))
          have hbB : Below w.heap.size w wB := by rw [← hwB]; exact hb.alloc hb.size _
          have x0 : wB.cell? ⟨wr.heap.size, 0, none⟩ = some (.int .i64 y.n) := by rw [← hwB]; simp [go_sem]
          have x1 : wB.cell? ⟨wr.heap.size, 1, none⟩ = some (.int .i64 y.tp) := by rw [← hwB]; simp [go_sem]
          have x2 : wB.cell? ⟨wr.heap.size, 2, none⟩ = some (.int .i64 y.v) := by rw [← hwB]; simp [go_sem]
          have x3 : wB.cell? ⟨wr.heap.size, 3, none⟩ = some (.int .i64 y.d) := by rw [← hwB]; simp [go_sem]
          have x4 : wB.cell? ⟨wr.heap.size, 4, none⟩ = some (.int .i64 y.fr) := by rw [← hwB]; simp [go_sem]
          have x5 : wB.cell? ⟨wr.heap.size, 5, none⟩ = some (.int .i64 y.tt) := by rw [← hwB]; simp [go_sem]
          have x6 : wB.cell? ⟨wr.heap.size, 6, none⟩ = some (.int .i64 st) := by rw [← hwB]; simp [go_sem]
          have x7 : wB.cell? ⟨wr.heap.size, 7, none⟩ = some (.int .i64 en) := by rw [← hwB]; simp [go_sem]
          rw [hwB]
          have hzB : wr.heap.size < wB.heap.size := by rw [← hwB]; simp
          clear hwB
          clear c0 c1 c2 c3 c4 c5 c6 c7
          refine wp_region_held_drew (S := fun w' => wB.grownBy w' (some w.heap.size)) (by kernel_rfl) ((World.grownBy.refl wB _).trans ⟨rfl, rfl, rfl, Nat.le_refl _, fun _ _ _ => rfl⟩) (fun hHeld => ?_)
          refine takeU (i := 0) (some 46) (.map (some w.heap.size)) (by kernel_rfl) (by kernel_rfl) (by kernel_rfl) (by kernel_rfl) (by kernel_rfl) (fun _ => by kernel_rfl) (fun _ _ _ h => h) hHeld ?_
          refine takeU (i := 1) (some 47) (.pointer (some ⟨wr.heap.size, 6, none⟩)) (by kernel_rfl) (by kernel_rfl) (by kernel_rfl) (by kernel_rfl) (by kernel_rfl) (fun _ => by kernel_rfl) (fun _ _ _ h => h) hHeld ?_
          refine wpAnyH_take (i := 2) (oi := { dst := some 48, op := Go.Op.load 3 (Go.Operand.tmp 47), type := 3, pos := "hours.go:28", after := #[{ on := 1, ground := Go.Ground.data }], guard := none }) (v := .int .i64 st) rfl (by kernel_rfl) (by kernel_rfl) (by kernel_rfl) (fun _ _ _ h => h) (.inl ⟨by kernel_rfl, fun w9 h9 => by
            clear hHeld
            have d0 := h9.cell (a := ⟨wr.heap.size, 6, none⟩) x6 (fun e => HNE.out (Option.some.inj e))
            clear h9
            go_simp⟩) hHeld ?_
          refine takeU (i := 3) (some 49) (.map (some w.heap.size)) (by kernel_rfl) (by kernel_rfl) (by kernel_rfl) (by kernel_rfl) (by kernel_rfl) (fun _ => by kernel_rfl) (fun _ _ _ h => h) hHeld ?_
          refine takeU (i := 4) (some 50) (.pointer (some ⟨wr.heap.size, 7, none⟩)) (by kernel_rfl) (by kernel_rfl) (by kernel_rfl) (by kernel_rfl) (by kernel_rfl) (fun _ => by kernel_rfl) (fun _ _ _ h => h) hHeld ?_
          refine wpAnyH_take (i := 5) (oi := { dst := some 51, op := Go.Op.load 3 (Go.Operand.tmp 50), type := 3, pos := "hours.go:28", after := #[{ on := 4, ground := Go.Ground.data }, { on := 6, ground := Go.Ground.gcOnly Go.Departure.lateStores }], guard := none }) (v := .int .i64 en) rfl (by kernel_rfl) (by kernel_rfl) (by kernel_rfl) (fun _ _ _ h => h) (.inl ⟨by kernel_rfl, fun w9 h9 => by
            clear hHeld
            have d0 := h9.cell (a := ⟨wr.heap.size, 7, none⟩) x7 (fun e => HNE.out (Option.some.inj e))
            clear h9
            go_simp⟩) hHeld ?_
          try simp only [Act.put, List.setIfInBounds_toArray, List.set_cons_zero, List.set_cons_succ]
          refine wpAnyH_ready (rs := [6]) (by kernel_rfl) (by simp) ?_
          refine AllReadyH.cons (o := { dst := none, op := Go.Op.mapUpdate 146 (Go.Operand.tmp 46) (Go.Operand.tmp 48) (Go.Operand.const (Go.Value.bool true)), type := 0, pos := "hours.go:28", after := #[{ on := 0, ground := Go.Ground.data }, { on := 2, ground := Go.Ground.data }, { on := 0, ground := Go.Ground.phase }, { on := 1, ground := Go.Ground.phase }, { on := 2, ground := Go.Ground.phase }, { on := 3, ground := Go.Ground.textOnly Go.Departure.lateStores }, { on := 4, ground := Go.Ground.textOnly Go.Departure.lateStores }, { on := 5, ground := Go.Ground.textOnly Go.Departure.lateStores }], guard := none }) rfl (fun K hK => ?_) AllReadyH.nil
          refine step_putS rfl _ _ _ rfl (by rfl) (HSM.out.same rfl) Tryz.underlying3 Tryz.underlying146 Tryz.underlying4 (st) true (by rfl) (by rfl) Hu.out (by unfold maxLen; omega) ?_
          intro w6 hs6 hg6
          refine hK.out _ _ (hHeld.trans hg6) (fun hHeld => ?_)
          have HS6 := Lib.hid hs6
          clear hK K hg6 hs6
          try simp only [Act.put, List.setIfInBounds_toArray, List.set_cons_zero, List.set_cons_succ]
          try simp only [Act.put, List.setIfInBounds_toArray, List.set_cons_zero, List.set_cons_succ]
          refine wpAnyH_ready (rs := [7]) (by kernel_rfl) (by simp) ?_
          refine AllReadyH.cons (o := { dst := none, op := Go.Op.mapUpdate 146 (Go.Operand.tmp 49) (Go.Operand.tmp 51) (Go.Operand.const (Go.Value.bool true)), type := 0, pos := "hours.go:28", after := #[{ on := 3, ground := Go.Ground.data }, { on := 5, ground := Go.Ground.data }, { on := 6, ground := Go.Ground.chain }, { on := 0, ground := Go.Ground.phase }, { on := 1, ground := Go.Ground.phase }, { on := 2, ground := Go.Ground.phase }, { on := 3, ground := Go.Ground.phase }, { on := 4, ground := Go.Ground.phase }, { on := 5, ground := Go.Ground.phase }, { on := 6, ground := Go.Ground.phase }], guard := none }) rfl (fun K hK => ?_) AllReadyH.nil
          refine step_putS rfl _ _ _ rfl (by rfl) HS6.out Tryz.underlying3 Tryz.underlying146 Tryz.underlying4 (en) true (by rfl) (by rfl) Hd.out (by unfold maxLen; omega) ?_
          intro w7 hs6 hg6
          refine hK.out _ _ (hHeld.trans hg6) (fun hHeld => ?_)
          have HS7 := Lib.hid hs6
          clear hK K hg6 hs6
          try simp only [Act.put, List.setIfInBounds_toArray, List.set_cons_zero, List.set_cons_succ]
          refine wpAnyH_done (by kernel_rfl) ?_ _
          try simp only [Act.put, List.setIfInBounds_toArray, List.set_cons_zero, List.set_cons_succ]
          have hb7 := hbB.grown hHeld (by have := hbB.size; exact this) (fun z hz => Nat.le_of_eq (Option.some.inj hz))
          clear hHeld HS6 HSM hbB x0 x1 x2 x3 x4 x5 x6 x7 hzB HNE
          go_wp2_with fail
          go_roundw
          case rel => exact ⟨k + 1, n + 2, _, by omega, by go_num, hb7, HS7, Lib.hid (by omega), Lib.hid (fun z => by rw [List.mem_append, List.mem_append, HS.out, HSx.out, List.mem_append]; simp [or_assoc])⟩
          case measure => simp [intOf]; omega
        · obtain rfl : k = q.length := by omega
          have hn := HN.out
          have hq9 := HQL.out
          have HU : Hid (∀ Z : List Int, Z.Pairwise (· < ·) → (∀ x, x ∈ Z ↔ x ∈ S.filter (fun z => z != 10000001)) → Z = momL l q) := Lib.hid fun Z h1 h2 => mom_unique HH.out h1 h2 fun x => by rw [HS.out]; unfold hrs; rw [List.mem_append]
          clear HN HS HH HC2 HL2 HHe
          go_wp2_with (first
            | (refine wpList_delS rfl _ _ rfl (by rfl) HSM.out Tryz.underlying3 Tryz.underlying146 10000001 (by rfl) (by decide) ?_; intro w5 hs5 hg5; have HS5 := Lib.hid hs5; have hb5 := hb.grown hg5.grown hb.size (fun z hz => Nat.le_of_eq (Option.some.inj hz)); clear hs5 hg5)
            | (go_at_call 96; refine (keysI_r _ _).mono ?_; rintro e w4 ⟨rfl, h4⟩; have HS4 := Lib.hid (h4 ▸ HS5.out.alloc (.cells #[.map (some w.heap.size)] 146)); have hb4 : Below w.heap.size w w4 := h4 ▸ hb5.alloc hb5.size _; have hc4 : w4.cell? ⟨w5.heap.size, 0, none⟩ = some (.map (some w.heap.size)) := (by rw [h4]; simp [go_sem]); have hz4 : w5.heap.size < w4.heap.size := (by rw [h4]; simp); clear h4)
            | (go_at_call 74; refine (sortedKeys_r w5.heap.size w.heap.size n _ _ HS4.out (by omega) hz4 hc4).mono ?_; rintro e w3 ⟨a3, d3, Z, rfl, ho3, hp3, hm3, hb3⟩; have hZ := HU.out Z hp3 hm3; have HO3 := Lib.hid (own_base ho3 hb4.size); have HZ := Lib.hid hZ; clear ho3 hZ hp3 hm3))
          go_ret
          exact ⟨a3, d3, by rw [← HZ.out]; rfl, by rw [← HZ.out]; exact HO3.out, hb4.trans (hb3.mono hb4.size)⟩
end Go.Proofs.YtlpdjinhkmgbgaaGreatDoor

namespace Go.Proofs.YtlpdjinhkmgbgaaGreatDoor
set_option linter.unusedVariables false
set_option linter.unusedSimpArgs false
open Go.RowKit

/-- What good lists say of their moments. -/
theorem mom_good {L : Int} {js : List Int} {l : List Sgn} {q : List Edc} (h1 : sgnsB L js l = true) (h2 : edcsB L js q = true) :
    l.length ≤ 100 ∧ (∀ i, i < l.length → (gs l i).cv.length ≤ 10) ∧ q.length ≤ 50 ∧ (∀ x, x ∈ hrs l q → 0 ≤ x ∧ x ≤ 10000001) := by
  refine ⟨((sgns_iff L js l).1 h1).2.1, fun i hi => ?_, ((edcs_iff L js q).1 h2).2.1, fun x hx => hrs_in h1 h2 hx⟩
  have := sgn_in h1 i hi
  unfold sgnB at this
  simp only [Bool.and_eq_true, decide_eq_true_eq] at this
  exact this.1.2
theorem mom_len {l : List Sgn} {q : List Edc} (hl : l.length ≤ 100) (hcv : ∀ i, i < l.length → (gs l i).cv.length ≤ 10) (hq : q.length ≤ 50) : (momL l q).length ≤ 2300 := by
  have h1 := fold_len (hrs l q) []
  have h2 : (hrs l q).length ≤ 2300 := by
    unfold hrs
    rw [List.length_append, hrE_len]
    have := hrS_len hcv l.length (Nat.le_refl _)
    omega
  have e : (momL l q).length = ((hrs l q).foldl putH []).length := rfl
  rw [e]
  simp only [List.length_nil] at h1
  omega
end Go.Proofs.YtlpdjinhkmgbgaaGreatDoor
