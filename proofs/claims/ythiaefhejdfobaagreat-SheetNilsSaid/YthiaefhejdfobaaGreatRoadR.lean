/-
  Rows of stretches and of swaps in memory; slices.Clone and slices.SortFunc at stretches. By an AI agent.
-/
import Derived.Test.YthiaefhejdfobaaGreatRoadA
import Derived.Test.YthiaefhejdfobaaGreatRoadLay
import Derived.Test.YthiaefhejdfobaaGreatRoadZ
import Derived.Deep.AppendLies
import Derived.Lib.OwnBridge
import Derived.Shelf.SlSortCmp.NoneTotal
import Derived.Lib.AppendIntMem
namespace Go.Proofs.YthiaefhejdfobaaGreat
set_option linter.unusedVariables false
set_option linter.unusedSimpArgs false
open Go.RowKit

theorem spanInfo : (Tryz.prog.info? 86).map (fun i => (i.zero, i.size, i.bytes)) = some (some (.agg #[.int .i64 0, .int .i64 0]), 2, 16) := by kernel_rfl
theorem intInfo : (Tryz.prog.info? 3).map (fun i => (i.zero, i.size, i.bytes)) = some (some (.int .i64 0), 1, 8) := by kernel_rfl
theorem owns_below {w w' : World} {base : Nat} {e : TypeId} {size : Nat} {v : Value} {n : Nat} {xs : List Value} (h : w.ownsRow base e size v n xs) (hb : Below w.heap.size w w') : w'.ownsRow base e size v n xs := by
  refine ⟨h.1, ?_⟩
  rcases h.2 with h2 | ⟨g, cap, cur, h1, h2, h3, h4⟩
  · exact .inl h2
  · have hg : g < w.heap.size := by
      apply Nat.lt_of_not_le
      intro hle
      rw [Array.getElem?_eq_none hle] at h3
      cases h3
    exact .inr ⟨g, cap, cur, h1, h2, by rw [hb.block g hg]; exact h3, h4⟩
theorem owns_base {w : World} {base base' : Nat} {e : TypeId} {size : Nat} {v : Value} {n : Nat} {xs : List Value} (h : w.ownsRow base e size v n xs) (hb : base' ≤ base) : w.ownsRow base' e size v n xs := by
  refine ⟨h.1, ?_⟩
  rcases h.2 with h2 | ⟨g, cap, cur, h1, h2, h3, h4⟩
  · exact .inl h2
  · exact .inr ⟨g, cap, cur, h1, Nat.le_trans hb h2, h3, h4⟩
theorem owns_block {w : World} {base : Nat} {e : TypeId} {size : Nat} {v : Value} {n : Nat} {xs : List Value} (h : w.ownsRow base e size v n xs) {z : Nat} (hz : v.ownBlock = some z) : base ≤ z := by
  rcases h.2 with ⟨h1, _⟩ | ⟨g2, c3, cur, h1, h2, _⟩
  · rw [h1] at hz; simp [Value.ownBlock] at hz
  · rw [h1] at hz; simp [Value.ownBlock] at hz; omega
def clS (s : List (Int × Int)) : List Value := s.flatMap fun p => [.int .i64 p.1, .int .i64 p.2]
theorem clS_app (s : List (Int × Int)) (p : Int × Int) : clS (s ++ [p]) = clS s ++ [.int .i64 p.1, .int .i64 p.2] := by simp [clS]
theorem clS_len (s : List (Int × Int)) : (clS s).length = s.length * 2 := by
  induction s with
  | nil => rfl
  | cons p s ih => unfold clS at *; rw [List.flatMap_cons, List.length_append, ih]; simp; omega
theorem clS_0 : ∀ (s : List (Int × Int)) (i : Nat), i < s.length → (clS s)[i * 2]? = some (.int .i64 (gp s i).1)
  | [], i, hi => by simp at hi
  | p :: s, 0, hi => by simp [clS, gp]
  | p :: s, i + 1, hi => by
    have ih := clS_0 s i (by simpa using hi)
    unfold clS gp at *
    rw [List.flatMap_cons, List.getElem?_append_right (by simp; omega), show (i + 1) * 2 - [Value.int .i64 p.1, .int .i64 p.2].length = i * 2 from by simp; omega, ih]
    rfl
theorem clS_1 : ∀ (s : List (Int × Int)) (i : Nat), i < s.length → (clS s)[i * 2 + 1]? = some (.int .i64 (gp s i).2)
  | [], i, hi => by simp at hi
  | p :: s, 0, hi => by simp [clS, gp]
  | p :: s, i + 1, hi => by
    have ih := clS_1 s i (by simpa using hi)
    unfold clS gp at *
    rw [List.flatMap_cons, List.getElem?_append_right (by simp; omega), show (i + 1) * 2 + 1 - [Value.int .i64 p.1, .int .i64 p.2].length = i * 2 + 1 from by simp; omega, ih]
    rfl
theorem clS_set : ∀ (s : List (Int × Int)) (i : Nat) (b : Int), i < s.length → (clS s).set (i * 2 + 1) (.int .i64 b) = clS (s.set i ((gp s i).1, b))
  | [], i, b, hi => by simp at hi
  | p :: s, 0, b, hi => by simp [clS, gp]
  | p :: s, i + 1, b, hi => by
    have ih := clS_set s i b (by simpa using hi)
    unfold clS gp at *
    rw [List.flatMap_cons, List.set_append_right _ _ (by simp; omega), show (i + 1) * 2 + 1 - [Value.int .i64 p.1, .int .i64 p.2].length = i * 2 + 1 from by simp; omega, ih]
    rfl
theorem clS_one (s : List (Int × Int)) : ∀ v ∈ clS s, v.oneCell' = true := by
  intro v hv
  unfold clS at hv
  rw [List.mem_flatMap] at hv
  obtain ⟨p, _, h⟩ := hv
  simp at h
  rcases h with rfl | rfl <;> rfl
theorem pairs_nil (w : World) : PairsS w none [] := ⟨by simp, fun i hi => absurd hi (Nat.not_lt_zero _), 0, 0, (fun h => absurd rfl h), fun i hi => absurd hi (Nat.not_lt_zero _)⟩
theorem pairs_own {w : World} {base c : Nat} {a : Option Addr} {s : List (Int × Int)} (h : w.ownsRow base 86 2 (.slice a s.length c) s.length (clS s)) (hn : s.length ≤ 9223372036854775807) (hf : ∀ j, j < s.length → I64 (gp s j).1 ∧ I64 (gp s j).2) : PairsS w a s := by
  refine ⟨hn, hf, ?_⟩
  rcases h.2 with ⟨h1, h2⟩ | ⟨g2, c2, cur, h1, _⟩
  · exact ⟨0, 0, (fun hne => absurd (List.eq_nil_of_length_eq_zero h2) hne), fun i hi => by omega⟩
  · obtain ⟨rfl, rfl⟩ : a = some ⟨g2, 0, none⟩ ∧ c = c2 := by simpa using h1
    refine ⟨g2, 0, fun _ => rfl, fun i hi => ⟨?_, ?_⟩⟩
    · rw [Nat.zero_add, World.ownsRow.cellAt h (i * 2) (by omega)]; exact clS_0 s i hi
    · rw [Nat.zero_add, World.ownsRow.cellAt h (i * 2 + 1) (by omega)]; exact clS_1 s i hi
/-- The cells of swaps. -/
def clW (s : List Sw) : List Value := s.flatMap fun p => [.int .i64 p.1, .int .i64 p.2.1, .int .i64 p.2.2]
theorem clW_app (s : List Sw) (p : Sw) : clW (s ++ [p]) = clW s ++ [.int .i64 p.1, .int .i64 p.2.1, .int .i64 p.2.2] := by simp [clW]
theorem clW_c : ∀ (s : List Sw) (i : Nat), i < s.length → (clW s)[i * 3]? = some (.int .i64 (gw s i).1) ∧ (clW s)[i * 3 + 1]? = some (.int .i64 (gw s i).2.1) ∧ (clW s)[i * 3 + 2]? = some (.int .i64 (gw s i).2.2)
  | [], i, hi => by simp at hi
  | p :: s, 0, hi => by simp [clW, gw]
  | p :: s, i + 1, hi => by
    have ih := clW_c s i (by simpa using hi)
    have e : ∀ c, c < 3 → (clW (p :: s))[(i + 1) * 3 + c]? = (clW s)[i * 3 + c]? := fun c hc => by
      unfold clW
      rw [List.flatMap_cons, List.getElem?_append_right (by simp; omega), show (i + 1) * 3 + c - [Value.int .i64 p.1, .int .i64 p.2.1, .int .i64 p.2.2].length = i * 3 + c from by simp; omega]
    have g : gw (p :: s) (i + 1) = gw s i := rfl
    rw [g]
    exact ⟨(e 0 (by omega)).trans ih.1, (e 1 (by omega)).trans ih.2.1, (e 2 (by omega)).trans ih.2.2⟩
theorem trips_nil (w : World) : TripS w none [] := ⟨by simp, fun i hi => absurd hi (Nat.not_lt_zero _), 0, 0, (fun h => absurd rfl h), fun i hi => absurd hi (Nat.not_lt_zero _)⟩
theorem trips_own {w : World} {base c : Nat} {a : Option Addr} {s : List Sw} {T : TypeId} (h : w.ownsRow base T 3 (.slice a s.length c) s.length (clW s)) (hn : s.length ≤ 9223372036854775807) (hf : ∀ j, j < s.length → I64 (gw s j).1 ∧ I64 (gw s j).2.1 ∧ I64 (gw s j).2.2) : TripS w a s := by
  refine ⟨hn, hf, ?_⟩
  rcases h.2 with ⟨h1, h2⟩ | ⟨g2, c2, cur, h1, _⟩
  · exact ⟨0, 0, (fun hne => absurd (List.eq_nil_of_length_eq_zero h2) hne), fun i hi => by omega⟩
  · obtain ⟨rfl, rfl⟩ : a = some ⟨g2, 0, none⟩ ∧ c = c2 := by simpa using h1
    refine ⟨g2, 0, fun _ => rfl, fun i hi => ?_⟩
    have hc := clW_c s i hi
    refine ⟨?_, ?_, ?_⟩
    · rw [Nat.zero_add, World.ownsRow.cellAt h (i * 3) (by omega)]; exact hc.1
    · rw [Nat.zero_add, World.ownsRow.cellAt h (i * 3 + 1) (by omega)]; exact hc.2.1
    · rw [Nat.zero_add, World.ownsRow.cellAt h (i * 3 + 2) (by omega)]; exact hc.2.2

set_option maxRecDepth 100000 in
theorem clone0_any (p : Addr) (c : Nat) (w : World) :
    Calls Tryz.prog 29 #[.slice (some p) 0 c] w fun e w' => e = .returned (.slice (some ⟨w.heap.size, 0, none⟩) 0 0) ∧ w'.ownsRow w.heap.size 86 2 (.slice (some ⟨w.heap.size, 0, none⟩) 0 0) 0 [] ∧ Below w.heap.size w w' := by
  obtain ⟨i0, hi, hz0, hz1, hz2⟩ := info_parts spanInfo
  have q22 : ∀ (w : World) (a : Option Addr) (n c n' c' : Nat), (binOp .eql 22 (.slice a n c) (.slice none n' c')).run Tryz.prog w = .ok (.bool a.isNone) w := fun w a n c n' c' => Lib.run_eql_slice_nil w _ _ a n c n' c' Tryz.underlying22
  have hown : Hid ((w.alloc (.cells #[] 86)).ownsRow w.heap.size 86 2 (.slice (some ⟨w.heap.size, 0, none⟩) 0 0) 0 []) := Lib.hid (World.ownsRow_made w #[] 0 (Nat.le_refl _) (Nat.zero_le _) (by simp))
  go_enter Tryz.func29, Tryz.ntmps29
  go_wp2_with (first | (at_builtin; go_loud (refine wpList_append_zero rfl _ _ 22 (by rfl) w.heap.size 86 i0 2 Tryz.underlying22 hi (.slice (some ⟨w.heap.size, 0, none⟩) 0 0) 0 _ (by rfl) hown.out (some p) c (by rfl) ?_)))
  go_wp2_with fail
  go_ret
  exact ⟨rfl, hown.out, (Below.refl _ _).alloc (Nat.le_refl _) _⟩
/-- slices.Clone at stretches. -/
theorem clone_any (a : Option Addr) (l : List Spn) (c : Nat) (w : World) (hA : PairsS w a l) (hn : l.length ≤ 100000000) :
    Calls Tryz.prog 29 #[.slice a l.length c] w fun e w' => ∃ b c', e = .returned (.slice b l.length c') ∧ w'.ownsRow w.heap.size 86 2 (.slice b l.length c') l.length (clS l) ∧ Below w.heap.size w w' := by
  obtain ⟨hlen, -, blk, off, hadr, hc⟩ := hA
  by_cases hne : l = []
  · subst hne
    cases a with
    | none =>
      have := AnyE.slices_Clone_nil Tryz.laysClone 0 c w
      change Calls Tryz.prog 29 _ _ _ at this
      exact this.mono fun e w' ⟨he, hw⟩ => ⟨none, 0, he, by subst hw; exact ⟨rfl, .inl ⟨rfl, rfl⟩⟩, by subst hw; exact Below.refl _ _⟩
    | some p => exact (clone0_any p c w).mono fun e w' ⟨he, ho, hb⟩ => ⟨_, _, he, ho, hb⟩
  · obtain ⟨i0, hi, hz0, hz1, hz2⟩ := info_parts spanInfo
    obtain rfl := hadr hne
    have hcell : ∀ j u, (clS l)[j]? = some u → w.cell? ⟨blk, off + j, none⟩ = some u := fun j u h => by
      have hj : j < l.length * 2 := by
        rw [← clS_len]
        rw [List.getElem?_eq_some_iff] at h
        exact h.1
      rcases Nat.mod_two_eq_zero_or_one j with hm | hm
      · obtain ⟨i, rfl⟩ : ∃ i, j = i * 2 := ⟨j / 2, by omega⟩
        rw [clS_0 l i (by omega)] at h
        cases h
        exact (hc i (by omega)).1
      · obtain ⟨i, rfl⟩ : ∃ i, j = i * 2 + 1 := ⟨j / 2, by omega⟩
        rw [clS_1 l i (by omega)] at h
        cases h
        exact (hc i (by omega)).2
    have := AnyE.slices_Clone Tryz.laysClone i0 _ 2 16 hi hz0 hz1 hz2 (by rfl) (by decide) Tryz.sizeOf86 blk off l.length c (clS l) w (clS_len l) (by unfold maxLen; omega) (by omega) hcell (clS_one l)
    change Calls Tryz.prog 29 _ _ _ at this
    refine this.mono ?_
    rintro e w' ⟨v', he, ho, hz, hb⟩
    rcases ho.2 with ⟨h1, h2⟩ | ⟨g2, c2, cur, h1, h2⟩
    · exact absurd (List.eq_nil_of_length_eq_zero h2) hne
    · subst h1
      exact ⟨_, _, he, ho, hb⟩

def encS (x : Int × Int) : List Value := [.int .i64 x.1, .int .i64 x.2]
theorem isNaN_any (a : Int) (w : World) : Calls Tryz.prog 62 #[.int .i64 a] w fun e w' => e = .returned (.bool false) ∧ w' = w := by
  go_enter Tryz.func62, Tryz.ntmps62
  go_wp2
  go_ret
  exact ⟨rfl, rfl⟩
theorem compare_any (a b : Int) (w : World) : Calls Tryz.prog 37 #[.int .i64 a, .int .i64 b] w fun e w' => e = .returned (.int .i64 (Lib.compareInt a b)) ∧ w' = w := by
  unfold Lib.compareInt
  by_cases h1 : a < b
  · rw [if_pos h1]
    go_enter Tryz.func37, Tryz.ntmps37
    go_wp2_with (go_at_call 62; refine (isNaN_any _ _).mono ?_; rintro e w' ⟨rfl, rfl⟩)
    go_ret
    exact ⟨rfl, rfl⟩
  · by_cases h2 : b < a
    · rw [if_neg h1, if_pos h2]
      go_enter Tryz.func37, Tryz.ntmps37
      go_wp2_with (go_at_call 62; refine (isNaN_any _ _).mono ?_; rintro e w' ⟨rfl, rfl⟩)
      go_ret
      exact ⟨rfl, rfl⟩
    · rw [if_neg h1, if_neg (by omega)]
      go_enter Tryz.func37, Tryz.ntmps37
      go_wp2_with (go_at_call 62; refine (isNaN_any _ _).mono ?_; rintro e w' ⟨rfl, rfl⟩)
      go_ret
      exact ⟨rfl, rfl⟩
theorem ltU (x y : Int × Int) : ltOf (fun x y : Int × Int => Lib.compareInt x.1 y.1) x y = decide (x.1 < y.1) := by
  unfold ltOf Lib.compareInt
  by_cases h1 : x.1 < y.1
  · simp [h1]
  · by_cases h2 : y.1 < x.1 <;> simp [h1, h2]
theorem swoU : Sort.SWO (ltOf fun x y : Int × Int => Lib.compareInt x.1 y.1) where
  irrefl x := by rw [ltU]; simp
  trans x y z h1 h2 := by rw [ltU] at *; simp at *; omega
  ntrans x y z h1 h2 := by rw [ltU] at *; simp at *; omega
theorem gp_arr (d : Array (Int × Int)) {i : Nat} (h : i < d.size) : gp d.toList i = d[i]! := by
  unfold gp
  rw [List.getD_eq_getElem?_getD, getElem!_pos d i h, List.getElem?_eq_getElem (by simpa using h)]
  simp
theorem arr_gp (l : List (Int × Int)) {i : Nat} (h : i < l.length) : l.toArray[i]! = gp l i := by
  have := gp_arr l.toArray (i := i) (by simpa using h)
  simpa using this.symm
theorem holds_own {w : World} {base g c : Nat} {l : List Spn} (h : w.ownsRow base 86 2 (.slice (some ⟨g, 0, none⟩) l.length c) l.length (clS l)) : Sort.HoldsK encS 2 w g 0 l.toArray := by
  intro j hj
  rw [Sort.size_flatK] at hj
  have hj2 : j < l.length * 2 := by simpa using hj
  rw [Sort.get_flatK _ _ _ _ hj, Nat.zero_add, World.ownsRow.cellAt h j (by omega)]
  refine ⟨?_, World.ownsRow.frozenAt h j⟩
  rcases Nat.mod_two_eq_zero_or_one j with hm | hm
  · obtain ⟨i, rfl⟩ : ∃ i, j = i * 2 := ⟨j / 2, by omega⟩
    rw [clS_0 l i (by omega), show i * 2 / 2 = i by omega, show i * 2 % 2 = 0 by omega, arr_gp l (by omega)]; rfl
  · obtain ⟨i, rfl⟩ : ∃ i, j = i * 2 + 1 := ⟨j / 2, by omega⟩
    rw [clS_1 l i (by omega), show (i * 2 + 1) / 2 = i by omega, show (i * 2 + 1) % 2 = 1 by omega, arr_gp l (by omega)]; rfl
theorem sortNil_any (c : Nat) (fv : Value) (w : World) : Calls Tryz.prog 67 #[.slice none 0 c, fv] w fun e w' => e = .returned (.tuple #[]) ∧ w' = w := by
  have := AnyF.slices_SortFunc_none Tryz.laysSort none c fv w
  change Calls Tryz.prog 67 _ _ _ at this
  exact this
end Go.Proofs.YthiaefhejdfobaaGreat
