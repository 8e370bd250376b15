/-
  Rows of signs as values in memory, and insertion into them. By an AI agent.
-/
import Derived.Test.YtiagflackfkmnaaGreatRuRa
namespace Go.Proofs.YtiagflackfkmnaaGreat
set_option linter.unusedVariables false
set_option linter.unusedSimpArgs false
open Go.RowKit

instance : Inhabited Sgn := ⟨⟨0, 0, 0, 0, 0, 0, 0, 0, []⟩⟩
abbrev RE := Sgn × Option Addr × Nat
def encS (x : RE) : List Value := [.int .i64 x.1.n, .int .i64 x.1.k, .int .i64 x.1.v, .int .i64 x.1.c, .int .i64 x.1.d, .int .i64 x.1.rk, .int .i64 x.1.up, .int .i64 x.1.dn, .slice x.2.1 x.1.cv.length x.2.2]
theorem encS_len (x : RE) : (encS x).length = 9 := rfl
def clR (s : List RE) : List Value := s.flatMap encS
theorem clR_app (s t : List RE) : clR (s ++ t) = clR s ++ clR t := by simp [clR]
theorem clR_len (s : List RE) : (clR s).length = s.length * 9 := by
  induction s with
  | nil => rfl
  | cons p s ih => unfold clR at *; rw [List.flatMap_cons, List.length_append, ih, encS_len, List.length_cons]; omega
theorem clR_one (s : List RE) : ∀ v ∈ clR s, v.oneCell' = true := by
  intro v hv
  unfold clR at hv
  rw [List.mem_flatMap] at hv
  obtain ⟨p, _, h⟩ := hv
  simp [encS] at h
  rcases h with rfl | rfl | rfl | rfl | rfl | rfl | rfl | rfl | rfl <;> rfl
theorem clR_c : ∀ (s : List RE) (i : Nat), i < s.length → ∀ c, c < 9 → (clR s)[i * 9 + c]? = (encS s[i]!)[c]?
  | [], i, hi, c, hc => by simp at hi
  | p :: s, 0, hi, c, hc => by
    unfold clR
    rw [List.flatMap_cons, List.getElem?_append_left (by rw [encS_len]; omega), Nat.zero_mul, Nat.zero_add]; rfl
  | p :: s, i + 1, hi, c, hc => by
    have ih := clR_c s i (by simpa using hi) c hc
    unfold clR at *
    rw [List.flatMap_cons, List.getElem?_append_right (by rw [encS_len]; omega), encS_len, show (i + 1) * 9 + c - 9 = i * 9 + c by omega, ih]
    rfl
theorem clR_take : ∀ (s : List RE) (k : Nat), (clR s).take (k * 9) = clR (s.take k)
  | s, 0 => by simp [clR]
  | [], k + 1 => by simp [clR]
  | p :: s, k + 1 => by
    have ih := clR_take s k
    unfold clR at *
    rw [List.take_succ_cons, List.flatMap_cons, List.flatMap_cons, List.take_append, List.take_of_length_le (by rw [encS_len]; omega), encS_len, show (k + 1) * 9 - 9 = k * 9 by omega, ih]
theorem clR_drop : ∀ (s : List RE) (k : Nat), (clR s).drop (k * 9) = clR (s.drop k)
  | s, 0 => by simp [clR]
  | [], k + 1 => by simp [clR]
  | p :: s, k + 1 => by
    have ih := clR_drop s k
    unfold clR at *
    rw [List.drop_succ_cons, List.flatMap_cons, List.drop_append, List.drop_of_length_le (by rw [encS_len]; omega), encS_len, show (k + 1) * 9 - 9 = k * 9 by omega, ih]
    rfl
/-- The row as values, by insertion. -/
def insE (L dir h : Int) (l : List Sgn) (ad : Nat → Option Addr) (cp : Nat → Nat) : Nat → List RE
  | 0 => []
  | k + 1 => if selB dir h (gs l k) = true then
      (insE L dir h l ad cp k).take (plcS L dir (gs l k) ((insE L dir h l ad cp k).map (·.1)) (insE L dir h l ad cp k).length) ++ (gs l k, ad k, cp k) :: (insE L dir h l ad cp k).drop (plcS L dir (gs l k) ((insE L dir h l ad cp k).map (·.1)) (insE L dir h l ad cp k).length)
    else insE L dir h l ad cp k
theorem insE_map (L dir h : Int) (l : List Sgn) (ad : Nat → Option Addr) (cp : Nat → Nat) : ∀ k, (insE L dir h l ad cp k).map (·.1) = insR L dir h l k
  | 0 => rfl
  | k + 1 => by
    have ih := insE_map L dir h l ad cp k
    have hl : (insE L dir h l ad cp k).length = (insR L dir h l k).length := by rw [← ih, List.length_map]
    rw [insE, insR]; split
    · rw [List.map_append, List.map_cons, List.map_take, List.map_drop, ih, hl]
    · exact ih
theorem insE_len (L dir h : Int) (l : List Sgn) (ad : Nat → Option Addr) (cp : Nat → Nat) (k : Nat) : (insE L dir h l ad cp k).length ≤ k := by
  have h1 := insR_len L dir h l k
  rw [← insE_map L dir h l ad cp k, List.length_map] at h1
  exact h1
theorem insE_mem {L dir h : Int} {l : List Sgn} {ad : Nat → Option Addr} {cp : Nat → Nat} {x : RE} : ∀ {k}, x ∈ insE L dir h l ad cp k → ∃ j, j < k ∧ x = (gs l j, ad j, cp j) ∧ selB dir h (gs l j) = true
  | 0, hx => by simp [insE] at hx
  | k + 1, hx => by
    rw [insE] at hx
    split at hx
    next hs =>
      rw [List.mem_append, List.mem_cons] at hx
      rcases hx with hx | hx | hx
      · obtain ⟨j, hj, e⟩ := insE_mem (List.mem_of_mem_take hx); exact ⟨j, by omega, e⟩
      · exact ⟨k, by omega, hx, hs⟩
      · obtain ⟨j, hj, e⟩ := insE_mem (List.mem_of_mem_drop hx); exact ⟨j, by omega, e⟩
    next => obtain ⟨j, hj, e⟩ := insE_mem hx; exact ⟨j, by omega, e⟩
/-- One step, where the place is known. -/
theorem insE_step {L dir h : Int} {l : List Sgn} {ad : Nat → Option Addr} {cp : Nat → Nat} {k p : Nat} (hs : selB dir h (gs l k) = true) (hp : plcS L dir (gs l k) ((insE L dir h l ad cp k).map (·.1)) (insE L dir h l ad cp k).length = p) :
    insE L dir h l ad cp (k + 1) = (insE L dir h l ad cp k).take p ++ (gs l k, ad k, cp k) :: (insE L dir h l ad cp k).drop p := by
  rw [insE, if_pos hs, hp]
theorem insE_skip {L dir h : Int} {l : List Sgn} {ad : Nat → Option Addr} {cp : Nat → Nat} {k : Nat} (hs : selB dir h (gs l k) = false) : insE L dir h l ad cp (k + 1) = insE L dir h l ad cp k := by
  rw [insE, if_neg (by rw [hs]; exact Bool.false_ne_true)]
theorem plcS_yes {L dir : Int} {x : Sgn} {out : List Sgn} {k : Nat} (h : ahS L dir x (gs out k)) : plcS L dir x out (k + 1) = plcS L dir x out k := by rw [plcS, if_pos h]
theorem plcS_no {L dir : Int} {x : Sgn} {out : List Sgn} {k : Nat} (h : ¬ ahS L dir x (gs out k)) : plcS L dir x out (k + 1) = k + 1 := by rw [plcS, if_neg h]
/-- A row of values as signs. -/
theorem ownR {w : World} {base c : Nat} {a : Option Addr} {s : List RE} (h : w.ownsRow base 34 9 (.slice a s.length c) s.length (clR s)) (hn : s.length ≤ 9223372036854775807) (hp : ∀ i, i < s.length → PairsS w s[i]!.2.1 s[i]!.1.cv) : SgnS w a (s.map (·.1)) := by
  have hm : ∀ i, i < s.length → gs (s.map (·.1)) i = s[i]!.1 := fun i hi => by
    rw [gs_at _ (by simpa using hi), List.getElem_map, getElem!_pos _ i hi]
  refine ⟨by simpa using hn, ?_⟩
  rcases h.2 with ⟨h1, h2⟩ | ⟨g2, c2, cur, h1, _⟩
  · exact ⟨0, 0, fun _ => none, fun _ => 0, (fun hne => absurd (List.map_eq_nil_iff.2 (List.eq_nil_of_length_eq_zero h2)) hne), fun i hi => by simp at hi; omega⟩
  · obtain ⟨rfl, rfl⟩ : a = some ⟨g2, 0, none⟩ ∧ c = c2 := by simpa using h1
    refine ⟨g2, 0, fun i => s[i]!.2.1, fun i => s[i]!.2.2, fun _ => rfl, fun i hi => ?_⟩
    have hi : i < s.length := by simpa using hi
    have hc := fun j hj => (World.ownsRow.cellAt h (i * 9 + j) (by omega)).trans (clR_c s i hi j hj)
    rw [hm i hi, Nat.zero_add]
    exact ⟨⟨hc 0 (by omega), hc 1 (by omega), hc 2 (by omega), hc 3 (by omega), hc 4 (by omega), hc 5 (by omega), hc 6 (by omega), hc 7 (by omega)⟩, hc 8 (by omega), hp i hi⟩
end Go.Proofs.YtiagflackfkmnaaGreat
