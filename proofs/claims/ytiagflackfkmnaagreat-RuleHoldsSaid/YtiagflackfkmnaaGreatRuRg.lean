/-
  Row of both, as the laws ask it. By an AI agent.
-/
import Derived.Test.YtiagflackfkmnaaGreatRuHa
import Derived.Test.YtiagflackfkmnaaGreatRuRe
import Derived.Test.YtiagflackfkmnaaGreatRuRd
import Derived.Test.YtiagflackfkmnaaGreatRuWh
import Derived.Test.YtiagflackfkmnaaGreatRuW
namespace Go.Proofs.YtiagflackfkmnaaGreat
set_option linter.unusedVariables false
set_option linter.unusedSimpArgs false
open Go.RowKit

theorem nil_nums : numB [] = true := by
  have e3 : srt ([] : List Int) = [] := by simp [srt]
  unfold numB
  rw [e3]
  decide
theorem edcs_nil (L : Int) (js : List Int) : edcsB L js [] = lineB L js := by
  have e2 : nosE [] ([] : List Edc).length = [] := rfl
  unfold edcsB
  rw [e2, nil_nums]
  cases lineB L js <;> rfl
theorem sgns_nil (L : Int) (js : List Int) : sgnsB L js [] = lineB L js := by
  have e2 : nosK [] ([] : List Sgn).length = [] := rfl
  unfold sgnsB
  rw [e2, nil_nums]
  cases lineB L js <;> rfl
theorem sgns_line {L : Int} {js : List Int} {l : List Sgn} (h : sgnsB L js l = true) : lineB L js = true := by
  unfold sgnsB at h
  simp only [Bool.and_eq_true] at h
  exact h.1.1.1
theorem edcs_line {L : Int} {js : List Int} {l : List Edc} (h : edcsB L js l = true) : lineB L js = true := by
  unfold edcsB at h
  simp only [Bool.and_eq_true] at h
  exact h.1.1.1
/-- Signs alone. -/
theorem lst_s (L : Int) (js : List Int) (l : List Sgn) (e b3 r : Bool) : (lstE L js l [] ≠ 0 → whyK (lineB L js) true (sgnsB L js l) false b3 r = lstE L js l []) ∧ (lstE L js l [] = 0 → whyK (lineB L js) true (sgnsB L js l) false b3 r = if r = false then 2 else 0) := by
  unfold lstE whyK
  rw [edcs_nil]
  cases lineB L js <;> cases sgnsB L js l <;> cases r <;> cases b3 <;> decide
/-- Edicts alone. -/
theorem lst_e (L : Int) (js : List Int) (q : List Edc) (b2 r : Bool) : (lstE L js [] q ≠ 0 → whyK (lineB L js) false b2 true (edcsB L js q) r = lstE L js [] q) ∧ (lstE L js [] q = 0 → whyK (lineB L js) false b2 true (edcsB L js q) r = if r = false then 2 else 0) := by
  unfold lstE whyK
  rw [sgns_nil]
  cases lineB L js <;> cases edcsB L js q <;> cases r <;> cases b2 <;> decide
/-- Both. -/
theorem lst_se (L : Int) (js : List Int) (l : List Sgn) (q : List Edc) (r : Bool) : (lstE L js l q ≠ 0 → whyK (lineB L js) true (sgnsB L js l) true (edcsB L js q) r = lstE L js l q) ∧ (lstE L js l q = 0 → whyK (lineB L js) true (sgnsB L js l) true (edcsB L js q) r = if r = false then 2 else 0) := by
  unfold lstE whyK
  cases lineB L js <;> cases sgnsB L js l <;> cases edcsB L js q <;> cases r <;> decide
/-- The numbers of good signs. -/
theorem sgn_nums {L : Int} {js : List Int} {l : List Sgn} (h : sgnsB L js l = true) : (∀ k, k < l.length → 1 ≤ (gs l k).n ∧ (gs l k).n ≤ 1000000000) ∧ ∀ i j, i < j → j < l.length → (gs l i).n ≠ (gs l j).n := by
  unfold sgnsB at h
  simp only [Bool.and_eq_true] at h
  obtain ⟨h1, h2⟩ := (num_iff _).1 h.2
  have hl : (nosK l l.length).length = l.length := by exact nosK_len _ (Nat.le_refl _)
  refine ⟨fun k hk => ?_, fun i j hij hj e => ?_⟩
  · rw [← s_num l hk]
    refine h1 _ ?_
    rw [gi_at _ (by omega)]
    exact List.getElem_mem _
  · rw [← s_num l (by omega), ← s_num l hj, gi_at _ (by omega), gi_at _ (by omega)] at e
    exact (List.pairwise_iff_getElem.1 h2) i j (by omega) (by omega) hij e
theorem lst_sgns {L : Int} {js : List Int} {l : List Sgn} {q : List Edc} (h : lstE L js l q = 0) : sgnsB L js l = true := by
  unfold lstE at h
  split at h
  · cases h
  split at h
  · cases h
  next h2 => simpa using h2
theorem lst_edcs {L : Int} {js : List Int} {l : List Sgn} {q : List Edc} (h : lstE L js l q = 0) : edcsB L js q = true := by
  unfold lstE at h
  split at h
  · cases h
  split at h
  · cases h
  split at h
  · cases h
  next h2 => simpa using h2
/-- The numbers of a row. -/
def numsR (L dir h : Int) (l : List Sgn) : List Int := (insR L dir h l l.length).map (·.n)
theorem insR_mem {L dir h : Int} {l : List Sgn} {x : Sgn} {k : Nat} (hx : x ∈ insR L dir h l k) : ∃ j, j < k ∧ gs l j = x := selR_mem ((insR_perm L dir h l k).mem_iff.1 hx)
/-- Row answers: the numbers, or an error and none. -/
def RwA (X : List Int) (E : Int) (w : World) (e : Ending) (w' : World) : Prop := ∃ b c, e = .returned (.tuple #[.slice b X.length c, .int .i64 E]) ∧ IntsS w' b X ∧ Below w.heap.size w w'
theorem Row_any (L : Int) (a : Option Addr) (js : List Int) (ca : Nat) (aa : Option Addr) (l : List Sgn) (cl : Nat) (h dir : Int) (b3 : Bool) (w : World) (hI : IntsS w a js) (hA : SgnS w aa l) :
    Calls Tryz.prog 15 #[.agg #[.int .i64 L, .slice a js.length ca], .slice aa l.length cl, .int .i64 h, .int .i64 dir] w
      (RwA (if whyK (lineB L js) true (sgnsB L js l) false b3 (btw h 0 10000000 && dirB dir) = 0 then numsR L dir h l else []) (whyK (lineB L js) true (sgnsB L js l) false b3 (btw h 0 10000000 && dirB dir)) w) := by
  obtain ⟨k1, k2⟩ := lst_s L js l true b3 (btw h 0 10000000 && dirB dir)
  by_cases hV : lstE L js l [] = 0
  · rw [k2 hV]
    cases hx : (btw h 0 10000000 && dirB dir) with
    | false =>
      refine (Row_arg L a js ca aa l cl h dir hV hx w hI hA).mono ?_
      rintro e w' ⟨rfl, hb⟩
      rw [if_pos rfl, if_neg (by decide)]
      exact ⟨none, 0, rfl, ints_nil _ _, hb⟩
    | true =>
      rw [if_neg (show ¬ (true = false) by decide), if_pos rfl]
      rw [Bool.and_eq_true] at hx
      obtain ⟨⟨hL1, hL2⟩, hJ, hC, hn⟩ := lst_good hV
      obtain ⟨hn1, hn2⟩ := sgn_nums (lst_sgns hV)
      refine (Row_good L a js ca aa l cl h dir hV hx.1 hx.2 hL1 hL2 hJ hC hn w hI hA).mono ?_
      rintro e w' ⟨row, b, c, hRL, hrl, rfl, hown, hb⟩
      have he : numR row row.length = numsR L dir h l := by
        unfold numR numsR
        rw [List.take_of_length_le (Nat.le_refl _), ← row_ins hn2 hRL, List.map_map]
        rfl
      have hle : row.length = (numsR L dir h l).length := by rw [← he, numR_len _ (Nat.le_refl _)]
      rw [he] at hown
      rw [hle] at hown ⊢
      refine ⟨b, c, rfl, ints_own hown ?_ ?_, hb⟩
      · rw [← hle]; omega
      · intro j hj
        show I64 (gi (numsR L dir h l) j)
        have hm : gi (numsR L dir h l) j ∈ numsR L dir h l := by
          have hj : j < (numsR L dir h l).length := hj
          rw [gi_at _ hj]; exact List.getElem_mem _
        obtain ⟨x, hx1, hx2⟩ := List.mem_map.1 hm
        obtain ⟨i, hi, e⟩ := insR_mem hx1
        have := hn1 i hi
        rw [← hx2, ← e]
        unfold I64
        omega
  · rw [k1 hV, if_neg hV]
    refine (Row_bad L a js ca aa l cl h dir hV w hI hA).mono ?_
    rintro e w' ⟨rfl, hb⟩
    exact ⟨none, 0, rfl, ints_nil _ _, hb⟩
/-- The reference's row. -/
def RrZ (L dir h : Int) (l : List Sgn) (w : World) (e : Ending) (w' : World) : Prop := ∃ b c, e = .returned (.slice b (numsR L dir h l).length c) ∧ SgnS w' b (insR L dir h l l.length) ∧ Below w.heap.size w w'
theorem refRow_z (L : Int) (a : Option Addr) (n ca : Nat) (aa : Option Addr) (l : List Sgn) (cl : Nat) (h dir : Int) (hL1 : 0 ≤ L) (hL2 : L ≤ 100000) (hC : ∀ j, j < l.length → 0 ≤ (gs l j).c ∧ (gs l j).c ≤ 100000) (hn : l.length ≤ 1000) (w : World) (hA : SgnS w aa l) :
    Calls Tryz.prog 19 #[.agg #[.int .i64 L, .slice a n ca], .slice aa l.length cl, .int .i64 h, .int .i64 dir] w (RrZ L dir h l w) := by
  refine (refRow_r L a n ca aa l cl h dir hL1 hL2 hC hn w hA).mono ?_
  rintro e w' ⟨b, c, rfl, hS, hb⟩
  exact ⟨b, c, by unfold numsR; rw [List.length_map], hS, hb⟩
/-- A row with its numbers. -/
def RrQ (X : List Int) (R : List Sgn) (w : World) (e : Ending) (w' : World) : Prop := ∃ b c, e = .returned (.slice b X.length c) ∧ SgnS w' b R ∧ Below w.heap.size w w'
theorem nums_step (R : List Sgn) {k : Nat} (h : k < (R.map (·.n)).length) : clI ((R.map (·.n)).take (k + 1)) = clI ((R.map (·.n)).take k) ++ [.int .i64 (gs R k).n] := by
  have h2 : k < R.length := by rw [List.length_map] at h; exact h
  rw [List.take_add_one, List.getElem?_eq_getElem h, Option.toList_some, clI_app, List.getElem_map, gs_at _ h2]
end Go.Proofs.YtiagflackfkmnaaGreat
