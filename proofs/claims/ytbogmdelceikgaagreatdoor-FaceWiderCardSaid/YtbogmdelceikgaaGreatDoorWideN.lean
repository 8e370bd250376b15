/-
  What FaceWider asks of the items of a panel, and of a panel with a longer line: plain mathematics. By an AI agent.
-/
import Derived.Test.YtbogmdelceikgaaGreatDoorWideM
import Derived.Test.YtbogmdelceikgaaGreatDoorPanE
namespace Go.Proofs.YtbogmdelceikgaaGreatDoor

/-- How low the text above line j lies. -/
def lowK (u T H : Int) : Nat → Int
  | 0 => H - u
  | j + 1 => T - 7 * u - 11 * u * j
theorem wide_item {u g k : Int} {ls : List ByteArray} (h0 : panE u g k ls = 0) {j : Nat} (hj : j < ls.length) :
    lenE ls[j] u = 0 ∧ 1 ≤ u ∧ u ≤ 200 ∧ u ≤ (panW u ls - lenV ls[j] u) / 2 ∧ (panW u ls - lenV ls[j] u) / 2 + lenV ls[j] u ≤ panW u ls - u ∧ u ≤ panTop u ls.length - 7 * u - 11 * u * j ∧
      panTop u ls.length - 7 * u - 11 * u * j + 7 * u ≤ lowK u (panTop u ls.length) (panH u ls.length) j := by
  obtain ⟨h1, h2, h3, h4⟩ := panE_zero h0
  have hok := List.all_eq_true.1 h2 ls[j] (List.getElem_mem hj)
  have hu : btw u 1 200 = true := by unfold lineOk at hok; rw [Bool.and_eq_true] at hok; exact hok.1
  obtain ⟨u0, u1⟩ := (btw_iff _ _ _).1 hu
  have hl : lenV ls[j] u + 6 * u ≤ panW u ls := by
    have := longest_ge u ls j hj
    unfold panW
    omega
  have hq : panN u ls.length ≤ panH u ls.length := by unfold panH; omega
  obtain ⟨a, b, c, d⟩ := line_lies (n := ls.length) (k := j) u0 (by omega) rfl hq (show panTop u ls.length = _ from rfl) hl
  refine ⟨lenE_ok hok, u0, u1, a, b, c, ?_⟩
  cases j with
  | zero => show _ ≤ panH u ls.length - u; simp; omega
  | succ j => exact line_next u _ j u0
theorem wide_more {u g k : Int} {ls : List ByteArray} (h0 : panE u g k ls = 0) {i : Nat} (hi : i < ls.length) {s : ByteArray} (hs : ls[i].size ≤ s.size) :
    panE u g k (ls.set i s) = 2 ∨ panE u g k (ls.set i s) = 11 ∨ (panE u g k (ls.set i s) = 0 ∧ panW u ls ≤ panW u (ls.set i s)) := by
  obtain ⟨h1, h2, h3, h4⟩ := panE_zero h0
  cases ha : (ls.set i s).all (lineOk u) with
  | false => left; unfold panE; rw [if_pos (by rw [ha]; simp)]
  | true =>
    by_cases hw : panW u (ls.set i s) > 200 ∨ panH u ((ls.set i s).length : Int) > 200
    · right; left; unfold panE
      rw [if_neg, if_pos hw]
      rw [ha, List.length_set, h1, h3]; simp
    · right; right
      constructor
      · unfold panE
        rw [if_neg, if_neg hw]
        rw [ha, List.length_set, h1, h3]; simp
      · have hm := longest_mono u ls (ls.set i s) (by simp) (fun j h1 h2' => by
          rw [List.getElem_set]
          by_cases e : i = j
          · subst e
            rw [if_pos rfl]
            have ok1 := List.all_eq_true.1 h2 ls[i] (List.getElem_mem hi)
            have ok2 := List.all_eq_true.1 ha s (by
              have := List.getElem_mem h2'
              rwa [List.getElem_set, if_pos rfl] at this)
            unfold lineOk at ok1 ok2
            rw [Bool.and_eq_true] at ok1 ok2
            exact lenV_more ok1.1 ok1.2 ok2.2 hs
          · rw [if_neg e]; exact Int.le_refl _)
        unfold panW
        omega
theorem wide_size {u g k : Int} {ls : List ByteArray} (h0 : panE u g k ls = 0) {i : Nat} (hi : i < ls.length) : (ls[i].size : Int) ≤ 24 := by
  obtain ⟨h1, h2, h3, h4⟩ := panE_zero h0
  have ok1 := List.all_eq_true.1 h2 ls[i] (List.getElem_mem hi)
  unfold lineOk at ok1
  rw [Bool.and_eq_true] at ok1
  exact (spB_bd _ ok1.2).2
theorem panIts_get (u g k sz top : Int) (ls : List ByteArray) (j : Nat) (hj : j < ls.length) : (panIts u g k sz top ls)[j + 2]? = some (lineIt u k sz top j ls[j]) := by
  unfold panIts
  simp [hj]
end Go.Proofs.YtbogmdelceikgaaGreatDoor
