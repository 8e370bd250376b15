/-
  listsValid of package road. By an AI agent.
-/
import Derived.Test.YtdiabpcpcilclaaRoadJ
import Derived.Test.YtdiabpcpcilclaaRoadMi
import Derived.Deep.RegionHeld3
import Derived.Laws.EntriesVeiled
namespace Go.Proofs.Ytdiabpcpcilclaa
set_option linter.unusedVariables false
set_option linter.unusedSimpArgs false
open Go.RowKit

theorem wrong_any (x y : Int) (w : World) :
    Calls Try.prog 59 (#[.agg #[.int .i64 x, .int .i64 y]] ++ #[]) w fun e w' => e = .returned (.bool (!(strB x y 10000000))) ∧ Below w.heap.size w w' := by
  have HS := Lib.hid (fun W => isStretch_any x y 10000000 W)
  generalize strB x y 10000000 = b at *
  go_enter Try.func59, Try.ntmps59
  go_wp2_with fail
  refine (HS.out _).mono ?_
  rintro e w1 ⟨rfl, hb1⟩
  go_wp2_with fail
  go_ret
  exact ⟨rfl, by first | exact hb1 | exact box_below hb1⟩
set_option maxRecDepth 100000 in
set_option maxHeartbeats 1000000 in
theorem idxS_any (aa : Option Addr) (l : List (Spn)) (ca : Nat) (lb : Array Value) (p : Nat → Bool) (w : World) (hA : PairsS w aa l)
    (hp : ∀ j W, j < l.length → Below w.heap.size w W → Calls Try.prog 59 (#[.agg #[.int .i64 (gp l j).1, .int .i64 (gp l j).2]] ++ lb) W fun e w' => e = .returned (.bool (p j)) ∧ Below W.heap.size W w') :
    Calls Try.prog 76 #[.slice aa l.length ca, .func (.func 59) #[] lb] w fun e w' => e = .returned (.int .i64 (idxK p l.length)) ∧ Below w.heap.size w w' := by
  obtain ⟨hlen, -, blk, off, hadr, hc⟩ := hA
  have HP := Lib.hid hp
  have HC := Lib.hid hc
  have HH : Hid (∀ k, k < l.length → p k = true → (∀ j, j < k → p j = false) → idxK p l.length = k) := Lib.hid fun k hk h hb => idxK_hit h hb _ hk
  have HM : Hid ((∀ j, j < l.length → p j = false) → idxK p l.length = -1) := Lib.hid fun h => idxK_miss _ h
  have HL : Hid (0 < l.length → aa = some ⟨blk, off, none⟩) := Lib.hid fun h => hadr (pos_ne (n := 0) h)
  generalize idxK p l.length = R at *
  clear hp hc hadr
  go_enter Try.func76, Try.ntmps76
  go_wp2_with fail
  go_loopw [8] (fun i wr => ∃ k : Nat, k ≤ l.length ∧ i = .int .i64 k ∧ Below w.heap.size w wr ∧ Hid (∀ j, j < k → p j = false)) (fun i _ => l.length - (intOf i).toNat)
  case atStart => exact ⟨0, Nat.zero_le _, rfl, Below.refl _ _, Lib.hid fun j hj => absurd hj (Nat.not_lt_zero _)⟩
  case round =>
    obtain ⟨k, hk, rfl, hb, HA⟩ := hrel
    by_cases hlt : k < l.length
    · obtain rfl := HL.out (by omega)
      obtain ⟨c0, c1⟩ := HC.out k hlt
      have c0 := cell_below c0 hb
      have c1 := cell_below c1 hb
      have HK := Lib.hid (fun W => HP.out k W hlt)
      have HHk := Lib.hid (HH.out k hlt)
      have HN : Hid (p k = false → ∀ j, j < k + 1 → p j = false) := Lib.hid fun h j hj => by
        by_cases e : j = k
        · subst e; exact h
        · exact HA.out j (by omega)
      clear HP HC HM HL HH
      generalize (gp l k).1 = x0 at *
      generalize (gp l k).2 = x1 at *
      cases hpk : p k with
      | true =>
        have HR := Lib.hid (HHk.out hpk HA.out)
        rw [hpk] at HK
        clear hpk HHk HN
        go_wp2_with fail
        refine (HK.out _ hb).mono ?_
        rintro e w1 ⟨rfl, hb1⟩
        go_wp2_with fail
        go_ret
        rw [HR.out]
        exact ⟨rfl, hb.trans (hb1.mono hb.size)⟩
      | false =>
        have HR := Lib.hid (HN.out hpk)
        rw [hpk] at HK
        clear hpk HHk HN
        go_wp2_with fail
        refine (HK.out _ hb).mono ?_
        rintro e w1 ⟨rfl, hb1⟩
        go_wp2_with fail
        go_roundw
        case rel => exact ⟨k + 1, by omega, by go_num, hb.trans (hb1.mono hb.size), HR⟩
        case measure => simp [intOf]; omega
    · obtain rfl : k = l.length := by omega
      have HR := Lib.hid (HM.out HA.out)
      go_wp2_with fail
      go_ret
      rw [HR.out]
      exact ⟨rfl, hb⟩

set_option maxRecDepth 100000 in
theorem containsS_any (aa : Option Addr) (l : List (Spn)) (ca : Nat) (lb : Array Value) (p : Nat → Bool) (w : World) (hA : PairsS w aa l)
    (hp : ∀ j W, j < l.length → Below w.heap.size w W → Calls Try.prog 59 (#[.agg #[.int .i64 (gp l j).1, .int .i64 (gp l j).2]] ++ lb) W fun e w' => e = .returned (.bool (p j)) ∧ Below W.heap.size W w') :
    Calls Try.prog 62 #[.slice aa l.length ca, .func (.func 59) #[] lb] w fun e w' => e = .returned (.bool (anyK p l.length)) ∧ Below w.heap.size w w' := by
  have H := Lib.hid (idxS_any aa l ca lb p w hA hp)
  have hq := Lib.hid (idxK_any p l.length)
  clear hp hA
  generalize idxK p l.length = R at *
  generalize anyK p l.length = B at *
  have hq := hq.out
  subst hq
  go_enter Try.func62, Try.ntmps62
  go_wp2_with fail
  refine H.out.mono ?_
  rintro e w1 ⟨rfl, hb1⟩
  go_wp2_with fail
  all_goals
    go_ret
    exact ⟨by simp_all, hb1⟩

/-- Is a list of stretches one that is let? -/
def spnB (l : List Spn) : Bool := l.all fun p => strB p.1 p.2 10000000
def okL (l : List Spn) : Bool := decide (l.length ≤ 1000) && spnB l
theorem spnB_any (l : List Spn) : anyK (fun j => !(strB (gp l j).1 (gp l j).2 10000000)) l.length = !(spnB l) := by
  unfold spnB
  cases h : anyK (fun j => !(strB (gp l j).1 (gp l j).2 10000000)) l.length with
  | false =>
    rw [anyK_iff] at h
    symm
    rw [Bool.not_eq_false', List.all_eq_true]
    intro p hp
    obtain ⟨k, hk, e⟩ := mem_gp hp
    have := h k hk
    rw [e] at this
    simpa using this
  | true =>
    symm
    rw [Bool.not_eq_true', ← Bool.not_eq_true, List.all_eq_true]
    intro g
    rw [(anyK_iff _).2] at h
    · cases h
    · intro k hk
      have := g _ (gp_mem hk)
      simp [this]
/-- A list of slices. -/
abbrev Slc := Option Addr × Nat × Nat
def gl (l : List Slc) (i : Nat) : Slc := l.getD i (none, 0, 0)
def SlcS (w : World) (a : Option Addr) (l : List Slc) : Prop :=
  l.length ≤ 9223372036854775807 ∧ ∃ blk off, (l ≠ [] → a = some ⟨blk, off, none⟩) ∧ ∀ i, i < l.length → w.cell? ⟨blk, off + i, none⟩ = some (.slice (gl l i).1 (gl l i).2.1 (gl l i).2.2)
theorem SlcS.below {w w' : World} {a : Option Addr} {l : List Slc} (h : SlcS w a l) (hb : Below w.heap.size w w') : SlcS w' a l := by
  obtain ⟨h0, blk, off, h2, h3⟩ := h
  exact ⟨h0, blk, off, h2, fun i hi => cell_below (h3 i hi) hb⟩
theorem slcs1 {w : World} {b : Nat} {x : Slc} (hx : w.cell? ⟨b, 0, none⟩ = some (.slice x.1 x.2.1 x.2.2)) : SlcS w (some ⟨b, 0, none⟩) [x] := ⟨by simp, b, 0, fun _ => rfl, fun i hi => by
  obtain rfl : i = 0 := by simpa using hi
  exact hx⟩
theorem slcs2 {w : World} {b : Nat} {x y : Slc} (hx : w.cell? ⟨b, 0, none⟩ = some (.slice x.1 x.2.1 x.2.2)) (hy : w.cell? ⟨b, 1, none⟩ = some (.slice y.1 y.2.1 y.2.2)) : SlcS w (some ⟨b, 0, none⟩) [x, y] := ⟨by simp, b, 0, fun _ => rfl, fun i hi => by
  have hi : i < 2 := by simpa using hi
  match i, hi with
  | 0, _ => exact hx
  | 1, _ => exact hy⟩
set_option maxRecDepth 100000 in
set_option maxHeartbeats 1000000 in
theorem idxT_any (aa : Option Addr) (l : List (Slc)) (ca : Nat) (lb : Array Value) (p : Nat → Bool) (w : World) (hA : SlcS w aa l)
    (hp : ∀ j W, j < l.length → Below w.heap.size w W → Calls Try.prog 61 (#[.slice (gl l j).1 (gl l j).2.1 (gl l j).2.2] ++ lb) W fun e w' => e = .returned (.bool (p j)) ∧ Below W.heap.size W w') :
    Calls Try.prog 75 #[.slice aa l.length ca, .func (.func 61) #[] lb] w fun e w' => e = .returned (.int .i64 (idxK p l.length)) ∧ Below w.heap.size w w' := by
  obtain ⟨hlen, blk, off, hadr, hc⟩ := hA
  have HP := Lib.hid hp
  have HC := Lib.hid hc
  have HH : Hid (∀ k, k < l.length → p k = true → (∀ j, j < k → p j = false) → idxK p l.length = k) := Lib.hid fun k hk h hb => idxK_hit h hb _ hk
  have HM : Hid ((∀ j, j < l.length → p j = false) → idxK p l.length = -1) := Lib.hid fun h => idxK_miss _ h
  have HL : Hid (0 < l.length → aa = some ⟨blk, off, none⟩) := Lib.hid fun h => hadr (pos_ne (n := 0) h)
  generalize idxK p l.length = R at *
  clear hp hc hadr
  go_enter Try.func75, Try.ntmps75
  go_wp2_with fail
  go_loopw [8] (fun i wr => ∃ k : Nat, k ≤ l.length ∧ i = .int .i64 k ∧ Below w.heap.size w wr ∧ Hid (∀ j, j < k → p j = false)) (fun i _ => l.length - (intOf i).toNat)
  case atStart => exact ⟨0, Nat.zero_le _, rfl, Below.refl _ _, Lib.hid fun j hj => absurd hj (Nat.not_lt_zero _)⟩
  case round =>
    obtain ⟨k, hk, rfl, hb, HA⟩ := hrel
    by_cases hlt : k < l.length
    · obtain rfl := HL.out (by omega)
      have c0 := cell_below (HC.out k hlt) hb
      have HK := Lib.hid (fun W => HP.out k W hlt)
      have HHk := Lib.hid (HH.out k hlt)
      have HN : Hid (p k = false → ∀ j, j < k + 1 → p j = false) := Lib.hid fun h j hj => by
        by_cases e : j = k
        · subst e; exact h
        · exact HA.out j (by omega)
      clear HP HC HM HL HH
      generalize (gl l k).1 = x0 at *
      generalize (gl l k).2.1 = x1 at *
      generalize (gl l k).2.2 = x2 at *
      cases hpk : p k with
      | true =>
        have HR := Lib.hid (HHk.out hpk HA.out)
        rw [hpk] at HK
        clear hpk HHk HN
        go_wp2_with fail
        refine (HK.out _ hb).mono ?_
        rintro e w1 ⟨rfl, hb1⟩
        go_wp2_with fail
        go_ret
        rw [HR.out]
        exact ⟨rfl, hb.trans (hb1.mono hb.size)⟩
      | false =>
        have HR := Lib.hid (HN.out hpk)
        rw [hpk] at HK
        clear hpk HHk HN
        go_wp2_with fail
        refine (HK.out _ hb).mono ?_
        rintro e w1 ⟨rfl, hb1⟩
        go_wp2_with fail
        go_roundw
        case rel => exact ⟨k + 1, by omega, by go_num, hb.trans (hb1.mono hb.size), HR⟩
        case measure => simp [intOf]; omega
    · obtain rfl : k = l.length := by omega
      have HR := Lib.hid (HM.out HA.out)
      go_wp2_with fail
      go_ret
      rw [HR.out]
      exact ⟨rfl, hb⟩

set_option maxRecDepth 100000 in
theorem containsT_any (aa : Option Addr) (l : List (Slc)) (ca : Nat) (lb : Array Value) (p : Nat → Bool) (w : World) (hA : SlcS w aa l)
    (hp : ∀ j W, j < l.length → Below w.heap.size w W → Calls Try.prog 61 (#[.slice (gl l j).1 (gl l j).2.1 (gl l j).2.2] ++ lb) W fun e w' => e = .returned (.bool (p j)) ∧ Below W.heap.size W w') :
    Calls Try.prog 60 #[.slice aa l.length ca, .func (.func 61) #[] lb] w fun e w' => e = .returned (.bool (anyK p l.length)) ∧ Below w.heap.size w w' := by
  have H := Lib.hid (idxT_any aa l ca lb p w hA hp)
  have hq := Lib.hid (idxK_any p l.length)
  clear hp hA
  generalize idxK p l.length = R at *
  generalize anyK p l.length = B at *
  have hq := hq.out
  subst hq
  go_enter Try.func60, Try.ntmps60
  go_wp2_with fail
  refine H.out.mono ?_
  rintro e w1 ⟨rfl, hb1⟩
  go_wp2_with fail
  all_goals
    go_ret
    exact ⟨by simp_all, hb1⟩

set_option maxRecDepth 100000 in
theorem lists2_any (a : Option Addr) (l : List Spn) (c b : Nat) (w : World) (hA : PairsS w a l) (hB : w.cell? ⟨b, 0, none⟩ = some (.func (.func 59) #[] #[])) :
    Calls Try.prog 61 (#[.slice a l.length c] ++ #[.pointer (some ⟨b, 0, none⟩)]) w fun e w' => e = .returned (.bool (!(okL l))) ∧ Below w.heap.size w w' := by
  have HC := Lib.hid (fun W (hW : Below w.heap.size w W) => containsS_any a l c #[] (fun j => !(strB (gp l j).1 (gp l j).2 10000000)) W (hA.below hW) (fun j W' _ _ => wrong_any _ _ W'))
  rw [spnB_any] at HC
  have hlen := hA.1
  clear hA
  unfold okL
  by_cases h : l.length ≤ 1000
  · rw [show decide (l.length ≤ 1000) = true by simpa using h, Bool.true_and]
    generalize spnB l = B at *
    go_enter Try.func61, Try.ntmps61
    go_wp2_with fail
    refine (HC.out _ (by first | exact Below.refl _ _ | exact box_below (Below.refl _ _))).mono ?_
    rintro e w1 ⟨rfl, hb1⟩
    go_wp2_with fail
    go_ret
    exact ⟨by show Ending.returned (.bool (decide (1000 < (l.length : Int)) || !B)) = _; rw [show decide (1000 < (l.length : Int)) = false by simpa using (by omega : ¬ (1000 : Int) < l.length)]; rfl, hb1⟩
  · rw [show decide (l.length ≤ 1000) = false by simpa using h, Bool.false_and]
    clear HC
    go_enter Try.func61, Try.ntmps61
    go_wp2_with fail
    go_ret
    exact ⟨rfl, Below.refl _ _⟩
set_option maxRecDepth 100000 in
theorem listsValid1_any (al : Option Addr) (l : List Spn) (cl : Nat) (b cb : Nat) (w : World) (hl : PairsS w al l) (k0 : w.cell? ⟨b, 0, none⟩ = some (.slice al l.length cl)) :
    Calls Try.prog 40 #[.slice (some ⟨b, 0, none⟩) 1 cb] w fun e w' => e = .returned (.bool (okL l)) ∧ Below w.heap.size w w' := by
  obtain ⟨wB, hwB⟩ : ∃ wB, w.alloc (.cells #[.func (.func 59) #[] #[]] 96) = wB := ⟨_, rfl⟩
  have hb0 : Below w.heap.size w wB := by rw [← hwB]; exact (Below.refl _ _).alloc (Nat.le_refl _) _
  have c0 : wB.cell? ⟨w.heap.size, 0, none⟩ = some (.func (.func 59) #[] #[]) := by rw [← hwB]; simp [go_sem]
  have HC := Lib.hid (containsT_any (some ⟨b, 0, none⟩) [(al, l.length, cl)] cb #[.pointer (some ⟨w.heap.size, 0, none⟩)] (fun j => match j with | 0 => !(okL l) | _ => !(okL l)) wB ((slcs1 k0).below hb0) (fun j W hj hW => by
    have hj : j < 1 := hj
    match j, hj with
      | 0, _ => exact lists2_any al l cl _ W ((hl.below hb0).below hW) (cell_below c0 hW)))
  have e : anyK (fun j => match j with | 0 => !(okL l) | _ => !(okL l)) ([(al, l.length, cl)] : List Slc).length = !(okL l) := by
    simp [anyK]
    try (cases okL l <;> cases okL l <;> rfl)
  rw [e] at HC
  clear e c0 hl k0
  subst hwB
  generalize (okL l) = R at *
  go_enter Try.func40, Try.ntmps40
  go_wp2_with fail
  refine HC.out.mono ?_
  rintro e w1 ⟨rfl, hb1⟩
  go_wp2_with fail
  go_ret
  exact ⟨by cases R <;> rfl, below_on hb0 hb1⟩
set_option maxRecDepth 100000 in
theorem listsValid2_any (al : Option Addr) (l : List Spn) (cl : Nat) (am : Option Addr) (m : List Spn) (cm : Nat) (b cb : Nat) (w : World) (hl : PairsS w al l) (hm : PairsS w am m) (k0 : w.cell? ⟨b, 0, none⟩ = some (.slice al l.length cl)) (k1 : w.cell? ⟨b, 1, none⟩ = some (.slice am m.length cm)) :
    Calls Try.prog 40 #[.slice (some ⟨b, 0, none⟩) 2 cb] w fun e w' => e = .returned (.bool (okL l && okL m)) ∧ Below w.heap.size w w' := by
  obtain ⟨wB, hwB⟩ : ∃ wB, w.alloc (.cells #[.func (.func 59) #[] #[]] 96) = wB := ⟨_, rfl⟩
  have hb0 : Below w.heap.size w wB := by rw [← hwB]; exact (Below.refl _ _).alloc (Nat.le_refl _) _
  have c0 : wB.cell? ⟨w.heap.size, 0, none⟩ = some (.func (.func 59) #[] #[]) := by rw [← hwB]; simp [go_sem]
  have HC := Lib.hid (containsT_any (some ⟨b, 0, none⟩) [(al, l.length, cl), (am, m.length, cm)] cb #[.pointer (some ⟨w.heap.size, 0, none⟩)] (fun j => match j with | 0 => !(okL l) | _ => !(okL m)) wB ((slcs2 k0 k1).below hb0) (fun j W hj hW => by
    have hj : j < 2 := hj
    match j, hj with
      | 0, _ => exact lists2_any al l cl _ W ((hl.below hb0).below hW) (cell_below c0 hW)
      | 1, _ => exact lists2_any am m cm _ W ((hm.below hb0).below hW) (cell_below c0 hW)))
  have e : anyK (fun j => match j with | 0 => !(okL l) | _ => !(okL m)) ([(al, l.length, cl), (am, m.length, cm)] : List Slc).length = !(okL l && okL m) := by
    simp [anyK]
    try (cases okL l <;> cases okL m <;> rfl)
  rw [e] at HC
  clear e c0 hl hm k0 k1
  subst hwB
  generalize (okL l && okL m) = R at *
  go_enter Try.func40, Try.ntmps40
  go_wp2_with fail
  refine HC.out.mono ?_
  rintro e w1 ⟨rfl, hb1⟩
  go_wp2_with fail
  go_ret
  exact ⟨by cases R <;> rfl, below_on hb0 hb1⟩
end Go.Proofs.Ytdiabpcpcilclaa
