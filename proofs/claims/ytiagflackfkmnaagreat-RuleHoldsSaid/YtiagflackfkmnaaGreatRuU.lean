/-
  The course of what signs make hold: told and its closure. By an AI agent.
-/
import Derived.Test.YtiagflackfkmnaaGreatRuS
import Derived.Test.YtiagflackfkmnaaGreatRuP
namespace Go.Proofs.YtiagflackfkmnaaGreat
set_option linter.unusedVariables false
set_option linter.unusedSimpArgs false
open Go.RowKit

theorem cuts0 : True := trivial
/-- A row that rowOf may return. -/
def RowL (L : Int) (js : List Int) (dir h : Int) (l : List Sgn) (row : List Pst) : Prop :=
  ∃ (ad : Nat → Option Addr) (cp : Nat → Nat) (l1 : List PE), l1.Perm (rowK L js dir h l ad cp l.length) ∧ (∀ i j, i < j → j < l1.length → ¬ ahdP l1[j]!.1 l1[i]!.1) ∧ row = (finP l1 (l1.length - 1)).map (·.1)
def RowF (L : Int) (js : List Int) (dir h : Int) (l : List Sgn) (w : World) (e : Ending) (w' : World) : Prop :=
  ∃ (row : List Pst) (a : Option Addr) (c : Nat), RowL L js dir h l row ∧ row.length ≤ l.length ∧ (∀ p, p ∈ row → (-100000 ≤ p.d ∧ p.d ≤ 100000) ∧ -100000 ≤ p.u ∧ p.u ≤ 100000) ∧ e = .returned (.slice a row.length c) ∧ PstS w' a row ∧ Below w.heap.size w w'
theorem dst_bd {L dir c : Int} (h1 : 0 ≤ L) (h2 : L ≤ 100000) (h3 : 0 ≤ c) (h4 : c ≤ 100000) : -100000 ≤ dstK L dir c ∧ dstK L dir c ≤ 100000 := by unfold dstK; split <;> omega
theorem opn_bd {L : Int} {js : List Int} {dir d : Int} (h1 : 0 ≤ L) (h2 : L ≤ 100000) (hJ : ∀ j, j < js.length → 0 ≤ gi js j ∧ gi js j ≤ 100000) : ∀ k, k ≤ js.length → -100000 ≤ opnK L js dir d k ∧ opnK L js dir d k ≤ 100000
  | 0, _ => by unfold opnK; omega
  | k + 1, hk => by
    have ih := opn_bd (dir := dir) (d := d) h1 h2 hJ k (by omega)
    have hj := hJ k (by omega)
    have := dst_bd (dir := dir) h1 h2 hj.1 hj.2
    rw [opnK]; split <;> omega
theorem finP_u (s : List PE) (h : ∀ j : Nat, j < s.length → (-100000 ≤ s[j]!.1.d ∧ s[j]!.1.d ≤ 100000) ∧ (0 ≤ s[j]!.1.s.v ∧ s[j]!.1.s.v ≤ 100000) ∧ -100000 ≤ s[j]!.1.u ∧ s[j]!.1.u ≤ 100000) : ∀ (t i : Nat), t < s.length → i < s.length → -100000 ≤ (finP s t)[i]!.1.u ∧ (finP s t)[i]!.1.u ≤ 100000
  | 0, i, _, hi => (h i hi).2.2
  | t + 1, i, ht, hi => by
    have ih := finP_u s h t
    have hl := finP_len s t
    rw [finP]
    split
    · by_cases e : t = i
      · subst e
        rw [set_same _ _ (by simp; omega)]
        have a := ih t (by omega) hi
        have k1 := finP_keeps s t t (by omega)
        have k2 := finP_keeps s t (t + 1) (by omega)
        have b1 := (h t hi).1
        have b2 := (h (t + 1) ht).2.1
        rw [← k1.2.1] at b1
        rw [← k2.1] at b2
        show _ ≤ min _ _ ∧ min _ _ ≤ _
        omega
      · rw [set_other _ _ e]
        by_cases e2 : t + 1 = i
        · subst e2
          rw [set_same _ _ (by omega)]
          exact ih (t + 1) (by omega) hi
        · rw [set_other _ _ e2]; exact ih i (by omega) hi
    · exact ih i (by omega) hi
theorem rowF_of {L : Int} {js : List Int} {dir h : Int} {l : List Sgn} {w : World} {e : Ending} {w' : World} (hL1 : 0 ≤ L) (hL2 : L ≤ 100000) (hJ : ∀ j, j < js.length → 0 ≤ gi js j ∧ gi js j ≤ 100000) (hC : ∀ j, j < l.length → (0 ≤ (gs l j).c ∧ (gs l j).c ≤ 100000) ∧ 0 ≤ (gs l j).v ∧ (gs l j).v ≤ 100000) (H : RowE L js dir h l w e w') : RowF L js dir h l w e w' := by
  obtain ⟨ad, cp, l1, a, c, h1, h2, h3, h4, h5⟩ := H
  have hl : (finP l1 (l1.length - 1)).length = l1.length := finP_len _ _
  have hr := rowK_len L js dir h l ad cp l.length
  have hp := h1.length_eq
  refine ⟨(finP l1 (l1.length - 1)).map (·.1), a, c, ⟨ad, cp, l1, h1, h2, rfl⟩, by simp [hl]; omega, fun p hp2 => ?_, by simp [hl]; exact h3, h4, h5⟩
  obtain ⟨x, hx, rfl⟩ := List.mem_map.1 hp2
  obtain ⟨i, hi, rfl⟩ := List.getElem_of_mem hx
  rw [hl] at hi
  have hk := finP_keeps l1 (l1.length - 1) i (by omega)
  have e1 : (finP l1 (l1.length - 1))[i] = (finP l1 (l1.length - 1))[i]! := (getElem!_pos _ i (by rw [hl]; exact hi)).symm
  have hEl : ∀ j : Nat, j < l1.length → (-100000 ≤ l1[j]!.1.d ∧ l1[j]!.1.d ≤ 100000) ∧ (0 ≤ l1[j]!.1.s.v ∧ l1[j]!.1.s.v ≤ 100000) ∧ -100000 ≤ l1[j]!.1.u ∧ l1[j]!.1.u ≤ 100000 := fun j hj => by
    obtain ⟨m, hm, e2⟩ := rowK_mem L js dir h l ad cp l1[j]! l.length (h1.mem_iff.1 (by rw [getElem!_pos _ j hj]; exact List.getElem_mem hj))
    rw [e2]
    exact ⟨dst_bd hL1 hL2 (hC m hm).1.1 (hC m hm).1.2, (hC m hm).2, opn_bd hL1 hL2 hJ _ (Nat.le_refl _)⟩
  rw [e1]
  refine ⟨?_, finP_u l1 hEl _ i (by omega) hi⟩
  rw [hk.2.1]
  have := (hEl i hi).1
  omega
set_option maxRecDepth 100000 in
set_option maxHeartbeats 1000000 in
theorem told1_r (L : Int) (a : Option Addr) (js : List Int) (ca : Nat) (dir tp m : Int) (row : List Pst) (ar : Option Addr) (cr rb wb lb : Nat) (hL1 : 0 ≤ L) (hL2 : L ≤ 100000) (hm1 : -1000000 ≤ m) (hm2 : m ≤ 1000000) (w : World) (hR : PstS w ar row)
    (c0 : w.cell? ⟨rb, 0, none⟩ = some (.slice ar row.length cr)) (c1 : w.cell? ⟨wb, 0, none⟩ = some (.int .i64 tp)) (c2 : w.cell? ⟨wb, 1, none⟩ = some (.int .i64 dir)) (c3 : w.cell? ⟨lb, 0, none⟩ = some (.int .i64 L)) (c4 : w.cell? ⟨lb, 1, none⟩ = some (.slice a js.length ca)) :
    Calls Tryz.prog 97 (#[.int .i64 m] ++ #[.pointer (some ⟨rb, 0, none⟩), .pointer (some ⟨wb, 0, none⟩), .pointer (some ⟨lb, 0, none⟩)]) w fun e w' => e = .returned (.int .i64 (hldL tp (begK L dir m) row 0)) ∧ Below w.heap.size w w' := by
  change Calls Tryz.prog 97 #[.int .i64 m, .pointer (some ⟨rb, 0, none⟩), .pointer (some ⟨wb, 0, none⟩), .pointer (some ⟨lb, 0, none⟩)] w _
  have HB := Lib.hid (fun W => beginOf_r L a js.length ca dir m hL1 hL2 hm1 hm2 W)
  have HH := Lib.hid (fun W (hW : Below w.heap.size w W) k => holdsAt_r ar row cr tp k W (hR.below hW))
  clear hR
  go_enter Tryz.func97, Tryz.ntmps97
  go_wp2_with fail
  have hB := Below.refl w.heap.size w
  have z0 := block_lt c0
  have z1 := block_lt c1
  have z3 := block_lt c3
  have C0 := Lib.hid c0
  have C1 := Lib.hid c1
  have C2 := Lib.hid c2
  have C3 := Lib.hid c3
  have C4 := Lib.hid c4
  go_region_held3 (fun w' => w'.cell? ⟨rb, 0, none⟩ = some (.slice ar row.length cr) ∧ w'.cell? ⟨wb, 0, none⟩ = some (.int .i64 tp) ∧ w'.cell? ⟨wb, 1, none⟩ = some (.int .i64 dir) ∧ w'.cell? ⟨lb, 0, none⟩ = some (.int .i64 L) ∧ w'.cell? ⟨lb, 1, none⟩ = some (.slice a js.length ca)) (go_keep)
    (first
      | (go_at_call 54
         refine (HB.out _).mono ?_
         rintro e w9 ⟨rfl, hb9⟩
         replace hB : Below w.heap.size w w9 := (show Below w.heap.size w _ by first | exact hB.drew | exact hB).trans (hb9.mono hB.size)
         have c0 := (hB.cell (p := ⟨rb, 0, none⟩) z0).trans C0.out
         have c1 := (hB.cell (p := ⟨wb, 0, none⟩) z1).trans C1.out
         have c2 := (hB.cell (p := ⟨wb, 1, none⟩) z1).trans C2.out
         have c3 := (hB.cell (p := ⟨lb, 0, none⟩) z3).trans C3.out
         have c4 := (hB.cell (p := ⟨lb, 1, none⟩) z3).trans C4.out)
      | (go_at_call 53
         refine (HH.out _ (by first | exact hB.drew | exact hB) _).mono ?_
         rintro e w9 ⟨rfl, hb9⟩
         replace hB : Below w.heap.size w w9 := (show Below w.heap.size w _ by first | exact hB.drew | exact hB).trans (hb9.mono hB.size)
         have c0 := (hB.cell (p := ⟨rb, 0, none⟩) z0).trans C0.out
         have c1 := (hB.cell (p := ⟨wb, 0, none⟩) z1).trans C1.out
         have c2 := (hB.cell (p := ⟨wb, 1, none⟩) z1).trans C2.out
         have c3 := (hB.cell (p := ⟨lb, 0, none⟩) z3).trans C3.out
         have c4 := (hB.cell (p := ⟨lb, 1, none⟩) z3).trans C4.out))
  all_goals
    go_wp2_with fail
    go_ret
    exact ⟨rfl, by first | exact hB | exact hB.drew⟩
/-- The cuts of a course. -/
def cutsK (L dir : Int) (row : List Pst) : Nat → List Int
  | 0 => [0, L]
  | k + 1 => cutsK L dir row k ++ [dstK L dir (gq row k).d, dstK L dir (gq row k).u]
theorem cutsK_len (L dir : Int) (row : List Pst) : ∀ k, (cutsK L dir row k).length = 2 + 2 * k
  | 0 => rfl
  | k + 1 => by rw [cutsK, List.length_append, cutsK_len L dir row k]; simp; omega
theorem cutsK_bd {L dir : Int} {row : List Pst} (h1 : 0 ≤ L) (h2 : L ≤ 100000) (h : ∀ p, p ∈ row → (-100000 ≤ p.d ∧ p.d ≤ 100000) ∧ -100000 ≤ p.u ∧ p.u ≤ 100000) : ∀ k, k ≤ row.length → ∀ m, m ∈ cutsK L dir row k → -1000000 ≤ m ∧ m ≤ 1000000
  | 0, _, m, hm => by
    simp [cutsK] at hm
    omega
  | k + 1, hk, m, hm => by
    rw [cutsK, List.mem_append] at hm
    rcases hm with hm | hm
    · exact cutsK_bd h1 h2 h k (by omega) m hm
    · have hp := h (gq row k) (by unfold gq; rw [List.getD_eq_getElem?_getD, List.getElem?_eq_getElem (show k < row.length by omega)]; exact List.getElem_mem _)
      have hd : ∀ c, -100000 ≤ c → c ≤ 100000 → -1000000 ≤ dstK L dir c ∧ dstK L dir c ≤ 1000000 := fun c a b => by unfold dstK; split <;> omega
      simp at hm
      rcases hm with rfl | rfl
      · exact hd _ hp.1.1 hp.1.2
      · exact hd _ hp.2.1 hp.2.2
theorem cell_neF {w : World} {B b o : Nat} {k : IntKind} {n : Int} {T : TypeId} {fr : Nat × Nat} (h : w.heap[B]? = some (.cells #[.nilFunc, .slice none 0 0] T fr)) (hc : w.cell? ⟨b, o, none⟩ = some (.int k n)) : b ≠ B := by
  rintro rfl
  rw [World.cell?, h] at hc
  rcases o with _ | _ | o <;> simp at hc
theorem pairs_far {w w' : World} {a : Option Addr} {l : List (Int × Int)} (h : PairsS w a l) (hf : ∀ b o k n, w.cell? ⟨b, o, none⟩ = some (.int k n) → w'.heap[b]? = w.heap[b]?) : PairsS w' a l := by
  obtain ⟨h0, h1, blk, off, h2, h3⟩ := h
  refine ⟨h0, h1, blk, off, h2, fun i hi => ?_⟩
  obtain ⟨c0, c1⟩ := h3 i hi
  have hb := hf _ _ _ _ c0
  exact ⟨(World.cell?_of_block (w := w) (w' := w') (a := ⟨blk, off + i * 2, none⟩) hb).trans c0, (World.cell?_of_block (w := w) (w' := w') (a := ⟨blk, off + i * 2 + 1, none⟩) hb).trans c1⟩
theorem pst_far {w w' : World} {a : Option Addr} {l : List Pst} (h : PstS w a l) (hf : ∀ b o k n, w.cell? ⟨b, o, none⟩ = some (.int k n) → w'.heap[b]? = w.heap[b]?) : PstS w' a l := by
  obtain ⟨h0, blk, off, ad, cp, h2, h3⟩ := h
  refine ⟨h0, blk, off, ad, cp, h2, fun i hi => ?_⟩
  obtain ⟨⟨⟨c0, c1, c2, c3, c4, c5, c6, c7⟩, c8, c9, c10, c11⟩, hp⟩ := h3 i hi
  have hb := hf _ _ _ _ c0
  have t : ∀ o v, w.cell? ⟨blk, o, none⟩ = some v → w'.cell? ⟨blk, o, none⟩ = some v := fun o v hc => (World.cell?_of_block (w := w) (w' := w') (a := ⟨blk, o, none⟩) hb).trans hc
  exact ⟨⟨⟨t _ _ c0, t _ _ c1, t _ _ c2, t _ _ c3, t _ _ c4, t _ _ c5, t _ _ c6, t _ _ c7⟩, t _ _ c8, t _ _ c9, t _ _ c10, t _ _ c11⟩, pairs_far hp hf⟩
theorem cutsK_pair (L dir : Int) (row : List Pst) (k : Nat) : clI (cutsK L dir row (k + 1)) = clI (cutsK L dir row k) ++ [.int .i64 (dstK L dir (gq row k).d), .int .i64 (dstK L dir (gq row k).u)] := by rw [cutsK]; simp [clI]
/-- A course comes back. -/
def ToldE (L : Int) (a : Option Addr) (js : List Int) (ca : Nat) (dir tp h : Int) (l : List Sgn) (w : World) (e : Ending) (w' : World) : Prop :=
  ∃ (row : List Pst) (ar : Option Addr) (cr rb wb lb : Nat) (aq : Option Addr) (cq : Nat), RowL L js dir h l row ∧ row.length ≤ l.length ∧ PstS w' ar row ∧ w'.cell? ⟨rb, 0, none⟩ = some (.slice ar row.length cr) ∧ w'.cell? ⟨wb, 0, none⟩ = some (.int .i64 tp) ∧ w'.cell? ⟨wb, 1, none⟩ = some (.int .i64 dir) ∧ w'.cell? ⟨lb, 0, none⟩ = some (.int .i64 L) ∧ w'.cell? ⟨lb, 1, none⟩ = some (.slice a js.length ca) ∧
    e = .returned (.agg #[.func (.func 97) #[] #[.pointer (some ⟨rb, 0, none⟩), .pointer (some ⟨wb, 0, none⟩), .pointer (some ⟨lb, 0, none⟩)], .slice aq (cutsK L dir row row.length).length cq]) ∧ IntsS w' aq (cutsK L dir row row.length) ∧ (∀ m, m ∈ cutsK L dir row row.length → -1000000 ≤ m ∧ m ≤ 1000000) ∧ Below w.heap.size w w'
end Go.Proofs.YtiagflackfkmnaaGreat
