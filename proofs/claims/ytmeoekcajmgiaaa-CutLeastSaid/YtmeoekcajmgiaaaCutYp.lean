/-
  The pieces of a cutting, longest first: they are those of the asks in another order. By an AI agent.
-/
import Derived.Test.YtmeoekcajmgiaaaCutYc
namespace Go.Proofs.Ytmeoekcajmgiaaa
set_option linter.unusedVariables false
set_option linter.unusedSimpArgs false
open Go.RowKit

def cnG (l : List (Int × Int)) (x : Nat) : Nat := (gp l x).2.toNat
/-- Those of one length among the first k asks. -/
def pcF (l : List (Int × Int)) (len : Int) : Nat → List Nat
  | 0 => []
  | k + 1 => pcF l len k ++ if (gp l k).1 = len then List.replicate (cnG l k) k else []
/-- Those of the j greatest lengths. -/
def pcD (l : List (Int × Int)) (L : Int) : Nat → List Nat
  | 0 => []
  | j + 1 => pcD l L j ++ pcF l (L - j) l.length
def pcA (l : List (Int × Int)) : Nat → List Nat
  | 0 => []
  | k + 1 => pcA l k ++ List.replicate (cnG l k) k
theorem count_rep (n x y : Nat) : (List.replicate n x).count y = if x = y then n else 0 := by
  rw [List.count_replicate]
  by_cases h : x = y
  · simp [h]
  · simp [h]
theorem pcF_count (l : List (Int × Int)) (len : Int) (x : Nat) : ∀ k, (pcF l len k).count x = if x < k ∧ (gp l x).1 = len then cnG l x else 0
  | 0 => by simp [pcF]
  | k + 1 => by
    rw [pcF, List.count_append, pcF_count l len x k]
    by_cases e : x = k
    · subst e
      rw [if_neg (fun h => Nat.lt_irrefl _ h.1)]
      by_cases g : (gp l x).1 = len
      · rw [if_pos g, if_pos ⟨Nat.lt_succ_self x, g⟩, count_rep, if_pos rfl]; omega
      · rw [if_neg g, if_neg (fun h => g h.2)]; simp
    · have : (if (gp l k).1 = len then List.replicate (cnG l k) k else []).count x = 0 := by
        split
        · rw [count_rep, if_neg (fun h => e h.symm)]
        · simp
      rw [this]
      by_cases h : x < k ∧ (gp l x).1 = len
      · rw [if_pos h, if_pos ⟨by omega, h.2⟩]; omega
      · rw [if_neg h, if_neg (fun g => h ⟨by omega, g.2⟩)]
theorem pcA_count (l : List (Int × Int)) (x : Nat) : ∀ k, (pcA l k).count x = if x < k then cnG l x else 0
  | 0 => by simp [pcA]
  | k + 1 => by
    rw [pcA, List.count_append, pcA_count l x k, count_rep]
    by_cases e : k = x
    · subst e; rw [if_pos rfl, if_neg (Nat.lt_irrefl k), if_pos (Nat.lt_succ_self k)]; omega
    · rw [if_neg e]
      by_cases h : x < k
      · rw [if_pos h, if_pos (by omega)]; omega
      · rw [if_neg h, if_neg (by omega)]
theorem pcD_count (l : List (Int × Int)) (L : Int) (x : Nat) (hx : x < l.length) (hL : (gp l x).1 ≤ L) : ∀ j : Nat, (pcD l L j).count x = if L - j < (gp l x).1 then cnG l x else 0
  | 0 => by rw [pcD, if_neg (by simp; omega)]; simp
  | j + 1 => by
    rw [pcD, List.count_append, pcD_count l L x hx hL j, pcF_count]
    by_cases h : L - j < (gp l x).1
    · rw [if_pos h, if_neg (fun g => by omega), if_pos (by omega)]; omega
    · rw [if_neg h]
      by_cases g : (gp l x).1 = L - j
      · rw [if_pos ⟨hx, g⟩, if_pos (by omega)]; omega
      · rw [if_neg (fun f => g f.2), if_neg (by omega)]
theorem pcF_lt (l : List (Int × Int)) (len : Int) : ∀ k x, x ∈ pcF l len k → x < k
  | 0, x, h => by simp [pcF] at h
  | k + 1, x, h => by
    rw [pcF, List.mem_append] at h
    rcases h with h | h
    · have := pcF_lt l len k x h; omega
    · split at h
      · have := (List.mem_replicate.1 h).2; omega
      · simp at h
theorem pcD_lt (l : List (Int × Int)) (L : Int) : ∀ j x, x ∈ pcD l L j → x < l.length
  | 0, x, h => by simp [pcD] at h
  | j + 1, x, h => by
    rw [pcD, List.mem_append] at h
    rcases h with h | h
    · exact pcD_lt l L j x h
    · exact pcF_lt l _ _ x h
theorem pcA_lt (l : List (Int × Int)) : ∀ k x, x ∈ pcA l k → x < k
  | 0, x, h => by simp [pcA] at h
  | k + 1, x, h => by
    rw [pcA, List.mem_append] at h
    rcases h with h | h
    · have := pcA_lt l k x h; omega
    · have := (List.mem_replicate.1 h).2; omega
theorem pc_perm (l : List (Int × Int)) (L : Nat) (h : ∀ x, x < l.length → 1 ≤ (gp l x).1 ∧ (gp l x).1 ≤ L) : (pcD l L L).Perm (pcA l l.length) := by
  rw [List.perm_iff_count]
  intro x
  rw [pcA_count]
  by_cases hx : x < l.length
  · rw [if_pos hx, pcD_count l L x hx (h x hx).2 L, if_pos (by have := (h x hx).1; omega)]
  · rw [if_neg hx, List.count_eq_zero]
    exact fun hm => hx (pcD_lt l L L x hm)
theorem szL_pcA (K : Int) (l : List (Int × Int)) : ∀ k, szL K l k = (pcA l k).map fun x => (gp l x).1 + K
  | 0 => rfl
  | k + 1 => by
    rw [szL, pcA, List.map_append, szL_pcA K l k, List.map_replicate]; rfl
def pcZ (l : List (Int × Int)) (L : Nat) : List Int := (pcD l L L).map fun (x : Nat) => (x : Int)
theorem szP_perm (K : Int) (l : List (Int × Int)) (L : Nat) (h : ∀ x, x < l.length → 1 ≤ (gp l x).1 ∧ (gp l x).1 ≤ L) : (szP K l (pcZ l L)).Perm (szL K l l.length) := by
  unfold szP pcZ
  rw [szL_pcA, List.map_map]
  exact (pc_perm l L h).map _
theorem pcZ_bd (l : List (Int × Int)) (L : Nat) : ∀ j, j < (pcZ l L).length → 0 ≤ gi (pcZ l L) j ∧ gi (pcZ l L) j < l.length := by
  intro j hj
  have hm : gi (pcZ l L) j ∈ pcZ l L := by
    unfold gi
    rw [List.getD_eq_getElem?_getD, List.getElem?_eq_getElem hj]
    exact List.getElem_mem hj
  unfold pcZ at hm
  obtain ⟨x, hx, e⟩ := List.mem_map.1 hm
  have := pcD_lt l L L x hx
  unfold pcZ
  rw [← e]
  omega
theorem pcZ_len (K : Int) (l : List (Int × Int)) (L : Nat) (h : ∀ x, x < l.length → 1 ≤ (gp l x).1 ∧ (gp l x).1 ≤ L) : (pcZ l L).length = (szL K l l.length).length := by
  rw [← (szP_perm K l L h).length_eq]; simp [szP]
end Go.Proofs.Ytmeoekcajmgiaaa
