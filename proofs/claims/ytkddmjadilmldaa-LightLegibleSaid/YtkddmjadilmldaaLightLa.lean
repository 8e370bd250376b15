/-
  Spans of metres: how they grow, in memory too; the walks of Sees and of sameSpans. By an AI agent.
-/
import Derived.Test.YtkddmjadilmldaaLightBrightsW
import Derived.Deep.AppendLies
namespace Go.Proofs.Ytkddmjadilmldaa
set_option linter.unusedVariables false
set_option linter.unusedSimpArgs false
open Go.RowKit

theorem spanInfo : (Try.prog.info? 78).map (fun i => (i.zero, i.size, i.bytes)) = some (some (.agg #[.int .i64 0, .int .i64 0]), 2, 16) := by kernel_rfl
theorem owns_below {w w' : World} {base : Nat} {e : TypeId} {size : Nat} {v : Value} {n : Nat} {xs : List Value} (h : w.ownsRow base e size v n xs) (hb : Below w.heap.size w w') : w'.ownsRow base e size v n xs := by
  refine ⟨h.1, ?_⟩
  rcases h.2 with h2 | ⟨g, cap, cur, h1, h2, h3, h4⟩
  · exact .inl h2
  · have hg : g < w.heap.size := by
      apply Nat.lt_of_not_le
      intro hle
      rw [Array.getElem?_eq_none hle] at h3
      cases h3
    exact .inr ⟨g, cap, cur, h1, h2, by rw [hb.block g hg]; exact h3, h4⟩
def clS (s : List (Int × Int)) : List Value := s.flatMap fun p => [.int .i64 p.1, .int .i64 p.2]
theorem clS_app (s : List (Int × Int)) (p : Int × Int) : clS (s ++ [p]) = clS s ++ [.int .i64 p.1, .int .i64 p.2] := by simp [clS]
theorem clS_0 : ∀ (s : List (Int × Int)) (i : Nat), i < s.length → (clS s)[i * 2]? = some (.int .i64 (gp s i).1)
  | [], i, hi => by simp at hi
  | p :: s, 0, hi => by simp [clS, gp]
  | p :: s, i + 1, hi => by
    have ih := clS_0 s i (by simpa using hi)
    unfold clS gp at *
    rw [List.flatMap_cons, List.getElem?_append_right (by simp; omega), show (i + 1) * 2 - [Value.int .i64 p.1, .int .i64 p.2].length = i * 2 from by simp; omega, ih]
    rfl
theorem clS_1 : ∀ (s : List (Int × Int)) (i : Nat), i < s.length → (clS s)[i * 2 + 1]? = some (.int .i64 (gp s i).2)
  | [], i, hi => by simp at hi
  | p :: s, 0, hi => by simp [clS, gp]
  | p :: s, i + 1, hi => by
    have ih := clS_1 s i (by simpa using hi)
    unfold clS gp at *
    rw [List.flatMap_cons, List.getElem?_append_right (by simp; omega), show (i + 1) * 2 + 1 - [Value.int .i64 p.1, .int .i64 p.2].length = i * 2 + 1 from by simp; omega, ih]
    rfl
theorem clS_set : ∀ (s : List (Int × Int)) (i : Nat) (b : Int), i < s.length → (clS s).set (i * 2 + 1) (.int .i64 b) = clS (s.set i ((gp s i).1, b))
  | [], i, b, hi => by simp at hi
  | p :: s, 0, b, hi => by simp [clS, gp]
  | p :: s, i + 1, b, hi => by
    have ih := clS_set s i b (by simpa using hi)
    unfold clS gp at *
    rw [List.flatMap_cons, List.set_append_right _ _ (by simp; omega), show (i + 1) * 2 + 1 - [Value.int .i64 p.1, .int .i64 p.2].length = i * 2 + 1 from by simp; omega, ih]
    rfl
/-- One more metre. -/
def stp (s : List (Int × Int)) (d : Int) : List (Int × Int) := if 0 < s.length ∧ (gp s (s.length - 1)).2 = d then s.set (s.length - 1) ((gp s (s.length - 1)).1, d + 1) else s ++ [(d, d + 1)]
/-- The spans of the first k metres at which P holds. -/
def spansOf (P : Nat → Bool) : Nat → List (Int × Int)
  | 0 => []
  | k + 1 => if P (k + 1) = true then stp (spansOf P k) ((k : Int) + 1) else spansOf P k
theorem gp_set {s : List (Int × Int)} {i j : Nat} {x : Int × Int} (hi : i < s.length) : gp (s.set i x) j = if j = i then x else gp s j := by
  unfold gp
  by_cases h : j = i
  · subst h; rw [if_pos rfl, List.getD_eq_getElem?_getD, List.getElem?_set_self hi]; rfl
  · rw [if_neg h, List.getD_eq_getElem?_getD, List.getElem?_set_ne (fun e => h e.symm), List.getD_eq_getElem?_getD]
theorem spans_bd (P : Nat → Bool) : ∀ k, (spansOf P k).length ≤ k ∧ ∀ j, j < (spansOf P k).length → (0 ≤ (gp (spansOf P k) j).1 ∧ (gp (spansOf P k) j).1 ≤ k) ∧ 0 ≤ (gp (spansOf P k) j).2 ∧ (gp (spansOf P k) j).2 ≤ k + 1
  | 0 => by simp [spansOf]
  | k + 1 => by
    obtain ⟨h1, h2⟩ := spans_bd P k
    rw [spansOf]
    split
    · unfold stp
      split
      · rename_i hp hs
        refine ⟨by simp; omega, fun j hj => ?_⟩
        rw [gp_set (by omega)]
        have hj2 : j < (spansOf P k).length := by simpa using hj
        have a := h2 ((spansOf P k).length - 1) (by omega)
        have b := h2 j hj2
        split
        · omega
        · omega
      · refine ⟨by simp; omega, fun j hj => ?_⟩
        by_cases e : j < (spansOf P k).length
        · have b := h2 j e
          have : gp (spansOf P k ++ [((k : Int) + 1, (k : Int) + 1 + 1)]) j = gp (spansOf P k) j := by unfold gp; rw [List.getD_eq_getElem?_getD, List.getElem?_append_left e, List.getD_eq_getElem?_getD]
          rw [this]; omega
        · have : j = (spansOf P k).length := by simp at hj; omega
          have g : gp (spansOf P k ++ [((k : Int) + 1, (k : Int) + 1 + 1)]) j = ((k : Int) + 1, (k : Int) + 1 + 1) := by unfold gp; rw [this, List.getD_eq_getElem?_getD, List.getElem?_append_right (Nat.le_refl _)]; simp
          rw [g]; simp only []; omega
    · refine ⟨by omega, fun j hj => ?_⟩
      have := h2 j hj
      omega
theorem spans_far {P : Nat → Bool} {n : Nat} (h : ∀ k, n < k → P k = false) : ∀ m, n ≤ m → spansOf P m = spansOf P n
  | m, hm => by
    induction m with
    | zero => rw [show n = 0 from by omega]
    | succ m ih =>
      by_cases e : n = m + 1
      · rw [e]
      · rw [spansOf, if_neg (by rw [h (m + 1) (by omega)]; simp), ih (by omega)]
theorem pairs_nil (w : World) : PairsS w none [] := ⟨by simp, fun i hi => absurd hi (Nat.not_lt_zero _), 0, 0, (fun h => absurd rfl h), fun i hi => absurd hi (Nat.not_lt_zero _)⟩
theorem pairs_own {w : World} {base c : Nat} {a : Option Addr} {s : List (Int × Int)} (h : w.ownsRow base 78 2 (.slice a s.length c) s.length (clS s)) (hn : s.length ≤ 9223372036854775807) (hf : ∀ j, j < s.length → I64 (gp s j).1 ∧ I64 (gp s j).2) : PairsS w a s := by
  refine ⟨hn, hf, ?_⟩
  rcases h.2 with ⟨h1, h2⟩ | ⟨g2, c2, cur, h1, _⟩
  · exact ⟨0, 0, (fun hne => absurd (List.eq_nil_of_length_eq_zero h2) hne), fun i hi => by omega⟩
  · obtain ⟨rfl, rfl⟩ : a = some ⟨g2, 0, none⟩ ∧ c = c2 := by simpa using h1
    refine ⟨g2, 0, fun _ => rfl, fun i hi => ⟨?_, ?_⟩⟩
    · rw [Nat.zero_add, World.ownsRow.cellAt h (i * 2) (by omega)]; exact clS_0 s i hi
    · rw [Nat.zero_add, World.ownsRow.cellAt h (i * 2 + 1) (by omega)]; exact clS_1 s i hi

/-- Whether one sees a metre. -/
noncomputable def seeB (o e : List Int) (r : List (List Int)) (z0 z1 z2 z3 need letter : Int) (k : Nat) : Bool := decide (need ≤ brightV o e r z0 z1 z2 z3 k) && decide (10 * (k : Int) ≤ 6 * letter)
set_option maxRecDepth 100000 in
theorem sees_any (ao ae ar : Option Addr) (o e : List Int) (r : List (List Int)) (co ce cr : Nat) (z0 z1 z2 z3 : Int) (need letter : Int) (k : Nat) (w : World) (hT : TableS w ao ae ar o e r) (hco : o.length ≤ co) (hce : e.length ≤ ce) (hK : TableOk o e r) (hS : sceneB z0 z1 z2 z3 = true) (k0 : 1 ≤ k) (k1 : k ≤ 400) (l0 : 1 ≤ letter) (l1 : letter ≤ 2000) :
    Calls Try.prog 36 #[.agg #[.slice ao o.length co, .slice ae e.length ce, .slice ar r.length cr], .agg #[.int .i64 z0, .int .i64 z1, .int .i64 z2, .int .i64 z3], .int .i64 need, .int .i64 letter, .int .i64 k] w fun E w' => E = .returned (.bool (seeB o e r z0 z1 z2 z3 need letter k)) ∧ Below w.heap.size w w' := by
  have HB : Hid (∀ W, Below w.heap.size w W → Calls Try.prog 58 #[.agg #[.slice ao o.length co, .slice ae e.length ce, .slice ar r.length cr], .agg #[.int .i64 z0, .int .i64 z1, .int .i64 z2, .int .i64 z3], .int .i64 k] W fun E w' => E = .returned (.int .i64 (brightV o e r z0 z1 z2 z3 k)) ∧ Below W.heap.size W w') := Lib.hid fun W hW => refBright_any ao ae ar o e r co ce cr z0 z1 z2 z3 k W (hT.below hW) hco hce hK hS (by omega) (by omega)
  unfold seeB
  clear hT hK hS
  generalize brightV o e r z0 z1 z2 z3 k = V at *
  by_cases h1 : need ≤ V
  · by_cases h2 : 10 * (k : Int) ≤ 6 * letter
    · rw [decide_eq_true h1, decide_eq_true h2]
      go_enter Try.func36, Try.ntmps36
      go_wp2_with fail
      refine (HB.out _ box2_start).mono ?_
      rintro E w1 ⟨rfl, hb1⟩
      go_wp2_with fail
      go_ret
      exact ⟨rfl, box2_below hb1⟩
    · rw [decide_eq_true h1, decide_eq_false h2]
      go_enter Try.func36, Try.ntmps36
      go_wp2_with fail
      refine (HB.out _ box2_start).mono ?_
      rintro E w1 ⟨rfl, hb1⟩
      go_wp2_with fail
      go_ret
      exact ⟨by first | rfl | (simp; omega), box2_below hb1⟩
  · rw [decide_eq_false h1]
    go_enter Try.func36, Try.ntmps36
    go_wp2_with fail
    refine (HB.out _ box2_start).mono ?_
    rintro E w1 ⟨rfl, hb1⟩
    go_wp2_with fail
    go_ret
    exact ⟨rfl, box2_below hb1⟩

set_option maxRecDepth 100000 in
set_option maxHeartbeats 1000000 in
/-- sameSpans of two lists that are the same. -/
theorem sameSpans_any (a b : Option Addr) (l : List (Int × Int)) (ca cb : Nat) (w : World) (hA : PairsS w a l) (hB : PairsS w b l) :
    Calls Try.prog 14 #[.slice a l.length ca, .slice b l.length cb] w fun e w' => e = .returned (.bool true) ∧ Below w.heap.size w w' := by
  obtain ⟨hlen, -, ba, oa, hada, ha⟩ := hA
  obtain ⟨-, -, bb, ob, hadb, hb⟩ := hB
  have HA := Lib.hid ha
  have HB := Lib.hid hb
  have HLA : Hid (0 < l.length → a = some ⟨ba, oa, none⟩) := Lib.hid fun h => hada (by rintro rfl; simp at h)
  have HLB : Hid (0 < l.length → b = some ⟨bb, ob, none⟩) := Lib.hid fun h => hadb (by rintro rfl; simp at h)
  clear ha hb hada hadb
  go_enter Try.func14, Try.ntmps14
  go_wp2_with fail
  go_loopw [5] (fun i wr => ∃ k : Nat, k ≤ l.length ∧ i = .int .i64 k ∧ Below w.heap.size w wr) (fun i _ => l.length - (intOf i).toNat)
  case atStart => exact ⟨0, Nat.zero_le _, rfl, Below.refl _ _⟩
  case round =>
    obtain ⟨k, hk, rfl, hbr⟩ := hrel
    by_cases hlt : k < l.length
    · obtain rfl := HLA.out (by omega)
      obtain rfl := HLB.out (by omega)
      have d0 := cell_below (HA.out k hlt).1 hbr
      have d1 := cell_below (HA.out k hlt).2 hbr
      have d2 := cell_below (HB.out k hlt).1 hbr
      have d3 := cell_below (HB.out k hlt).2 hbr
      have hkl : (k : Int) < (l.length : Int) := by omega
      clear HA HB HLA HLB
      generalize (gp l k).1 = x at *
      generalize (gp l k).2 = y at *
      go_wp2_with fail
      go_quiet (fail)
      go_wp2_with fail
      go_roundw
      case rel => exact ⟨k + 1, by omega, by go_num, below_drewN hbr _⟩
      case measure => simp [intOf]; omega
    · obtain rfl : k = l.length := by omega
      go_wp2_with fail
      go_ret
      exact ⟨rfl, hbr⟩
end Go.Proofs.Ytkddmjadilmldaa
