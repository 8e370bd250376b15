/-
  The reference's idle, codes and Faults. By an AI agent.; The reference's codes. By an AI agent.; The reference's Faults. By an AI agent.; The law RuleFaults. By an AI agent.
-/
import Derived.Test.YtjoffnbpaebgjaaGreatMgRuleMirrors7
import Derived.Test.YtjoffnbpaebgjaaGreatMgRuleMirrors9
import Derived.Test.YtjoffnbpaebgjaaGreatMgRuleMirrors11
import Derived.Test.YtjoffnbpaebgjaaGreatMgRuleMirrors14
import Derived.Test.YtjoffnbpaebgjaaGreatMgRuleMirrors15
import Derived.Deep.RegionHeld3
import Derived.Deep.RegionLawGrows
import Derived.Deep.AppendLies
import Derived.Deep.DeepCutAuto
import Derived.BigQuiet
import Derived.BigRegion
import Derived.StillTailTactics

namespace Go.Proofs.YtjoffnbpaebgjaaGreat
set_option linter.unusedVariables false
set_option linter.unusedSimpArgs false
open Go.RowKit

end Go.Proofs.YtjoffnbpaebgjaaGreat

namespace Go.Proofs.YtjoffnbpaebgjaaGreat
set_option linter.unusedVariables false
set_option linter.unusedSimpArgs false
open Go.RowKit

/-- A fault as a list. -/
def cdL (c : Int) : List Int := if c = 0 then [] else [c]
def CodE (C : Int) (w : World) (e : Ending) (w' : World) : Prop := ∃ b c, e = .returned (.slice b (cdL C).length c) ∧ IntsS w' b (cdL C) ∧ Below w.heap.size w w'
theorem cod_nil {C : Int} {w w' : World} (h : C = 0) (hb : Below w.heap.size w w') : CodE C w (.returned (.slice none 0 0)) w' := by
  subst h
  exact ⟨none, 0, rfl, ints_nil _ _, hb⟩
theorem cod_one {C : Int} {w w' : World} {g c : Nat} (h : C ≠ 0) (h2 : I64 C) (ho : w'.ownsRow w.heap.size 3 1 (.slice (some ⟨g, 0, none⟩) 1 c) 1 [.int .i64 C]) (hb : Below w.heap.size w w') : CodE C w (.returned (.slice (some ⟨g, 0, none⟩) 1 c)) w' := by
  have e : cdL C = [C] := by unfold cdL; rw [if_neg h]
  refine ⟨some ⟨g, 0, none⟩, c, by rw [e]; rfl, ?_, hb⟩
  rw [e]
  refine ints_own (zs := [C]) ho (by simp) (fun j hj => ?_)
  have hj : j < 1 := hj
  obtain rfl : j = 0 := by omega
  exact h2
end Go.Proofs.YtjoffnbpaebgjaaGreat

namespace Go.Proofs.YtjoffnbpaebgjaaGreat
set_option linter.unusedVariables false
set_option linter.unusedSimpArgs false
open Go.RowKit

theorem cl2_take : ∀ (s : List Flt) (k : Nat), (cl2 s).take (k * 2) = cl2 (s.take k)
  | s, 0 => by simp [cl2]
  | [], k + 1 => by simp [cl2]
  | p :: s, k + 1 => by
    have ih := cl2_take s k
    unfold cl2 at *
    rw [List.take_succ_cons, List.flatMap_cons, List.flatMap_cons, List.take_append, List.take_of_length_le (by rw [enc2_len]; omega), enc2_len, show (k + 1) * 2 - 2 = k * 2 by omega, ih]
theorem cl2_drop : ∀ (s : List Flt) (k : Nat), (cl2 s).drop (k * 2) = cl2 (s.drop k)
  | s, 0 => by simp [cl2]
  | [], k + 1 => by simp [cl2]
  | p :: s, k + 1 => by
    have ih := cl2_drop s k
    unfold cl2 at *
    rw [List.drop_succ_cons, List.flatMap_cons, List.drop_append, List.drop_of_length_le (by rw [enc2_len]; omega), enc2_len, show (k + 1) * 2 - 2 = k * 2 by omega, ih]
    rfl
theorem insF_len (x : Flt) (out : List Flt) : (insF x out).length = out.length + 1 := by
  have := (insF_perm x out).length_eq
  simpa using this
theorem putF_len (L : Int) (js : List Int) (dir : Int) (R : List Sgn) (out : List Flt) : ∀ k, (putF L js dir R out k).length ≤ out.length + k
  | 0 => Nat.le_refl _
  | k + 1 => by
    have := putF_len L js dir R out k
    rw [putF]; split
    · omega
    · rw [insF_len]; omega
theorem codS_bd (L : Int) (js : List Int) (dir : Int) (R : List Sgn) (i : Nat) : 0 ≤ codS L js dir R i ∧ codS L js dir R i ≤ 4 := by
  unfold codS; split
  · split <;> omega
  · split
    · split <;> omega
    · split
      · split <;> omega
      · split
        · split <;> omega
        · omega
theorem fltS_mem {L : Int} {js : List Int} {dir : Int} {R : List Sgn} {x : Flt} : ∀ {k}, x ∈ fltS L js dir R k → ∃ i, i < k ∧ x = ((gs R i).n, codS L js dir R i)
  | 0, h => by cases h
  | k + 1, h => by
    rw [fltS] at h
    split at h
    · obtain ⟨i, hi, e⟩ := fltS_mem h; exact ⟨i, by omega, e⟩
    · rw [List.mem_append, List.mem_singleton] at h
      rcases h with h | h
      · obtain ⟨i, hi, e⟩ := fltS_mem h; exact ⟨i, by omega, e⟩
      · exact ⟨k, by omega, h⟩
theorem refF_bd {L : Int} {js : List Int} {h : Int} {l : List Sgn} (hn : ∀ k, k < l.length → 1 ≤ (gs l k).n ∧ (gs l k).n ≤ 1000000000) : ∀ x, x ∈ refF L js h l → (1 ≤ x.1 ∧ x.1 ≤ 1000000000) ∧ 0 ≤ x.2 ∧ x.2 ≤ 4 := fun x hx => by
  have hx := (refF_perm L js h l).mem_iff.1 hx
  have one : ∀ dir, x ∈ fltS L js dir (insR L dir h l l.length) (insR L dir h l l.length).length → (1 ≤ x.1 ∧ x.1 ≤ 1000000000) ∧ 0 ≤ x.2 ∧ x.2 ≤ 4 := fun dir hx => by
    obtain ⟨i, hi, rfl⟩ := fltS_mem hx
    obtain ⟨j, hj, e⟩ := insR_mem (x := gs (insR L dir h l l.length) i) (by rw [gs_at _ hi]; exact List.getElem_mem hi)
    have h1 := hn j hj
    rw [e] at h1
    exact ⟨h1, codS_bd L js dir _ i⟩
  unfold allF at hx
  rw [List.mem_append] at hx
  rcases hx with hx | hx
  · exact one _ hx
  · exact one _ hx
/-- Does the place go on down? -/
def cndF (n : Int) (out : List Flt) (j : Nat) : Bool := decide (0 < j) && decide (n < (gp out (j - 1)).1)
theorem plcF_true {n : Int} {out : List Flt} {j : Nat} (h : cndF n out j = true) : 0 < j ∧ plcF n out j = plcF n out (j - 1) := by
  unfold cndF at h
  rw [Bool.and_eq_true, decide_eq_true_eq, decide_eq_true_eq] at h
  obtain ⟨t, rfl⟩ : ∃ t, j = t + 1 := ⟨j - 1, by omega⟩
  rw [Nat.add_sub_cancel] at h ⊢
  exact ⟨h.1, by rw [plcF, if_pos h.2]⟩
theorem plcF_false {n : Int} {out : List Flt} {j : Nat} (h : cndF n out j = false) : plcF n out j = j := by
  unfold cndF at h
  cases j with
  | zero => rfl
  | succ t =>
    rw [decide_eq_true (by omega), Bool.true_and, decide_eq_false_iff_not, Nat.add_sub_cancel] at h
    rw [plcF, if_neg h]
/-- The list behind z directions. -/
def dirF (L : Int) (js : List Int) (h : Int) (l : List Sgn) : Nat → List Flt
  | 0 => []
  | 1 => putF L js 1 (insR L 1 h l l.length) [] (insR L 1 h l l.length).length
  | _ + 2 => refF L js h l
/-- A list with a code put in, or not. -/
def ooF (x : Flt) (O : List Flt) (z : Nat) : List Flt := if z = 0 then O else insF x O
def FauR (M : List Flt) (w : World) (e : Ending) (w' : World) : Prop := ∃ b c, e = .returned (.slice b M.length c) ∧ PairsS w' b M ∧ Below w.heap.size w w'
theorem ins_dir {L dir h : Int} {l : List Sgn} (i : Nat) (hi : i < (insR L dir h l l.length).length) : (gs (insR L dir h l l.length) i).d = dir := by
  have hm : gs (insR L dir h l l.length) i ∈ insR L dir h l l.length := by rw [gs_at _ hi]; exact List.getElem_mem hi
  have := selR_sel ((insR_perm L dir h l l.length).mem_iff.1 hm)
  unfold selB at this
  simp only [Bool.and_eq_true, beq_iff_eq] at this
  exact this.1
theorem ooF_end (L : Int) (js : List Int) (dir : Int) (R : List Sgn) (O : List Flt) (i : Nat) : ooF ((gs R i).n, codS L js dir R i) (putF L js dir R O i) (cdL (codS L js dir R i)).length = putF L js dir R O (i + 1) := by
  rw [putF]
  unfold ooF cdL
  by_cases h : codS L js dir R i = 0
  · rw [if_pos h, if_pos h]; rfl
  · rw [if_neg h, if_neg h]; rfl
end Go.Proofs.YtjoffnbpaebgjaaGreat

namespace Go.Proofs.YtjoffnbpaebgjaaGreat
set_option linter.unusedVariables false
set_option linter.unusedSimpArgs false
open Go.RowKit

set_option maxRecDepth 100000 in
set_option maxHeartbeats 1000000 in
theorem Faults_bad (L : Int) (a : Option Addr) (js : List Int) (ca : Nat) (aa : Option Addr) (l : List Sgn) (cl : Nat) (h : Int) (hV : lstE L js l [] ≠ 0) (w : World) (hI : IntsS w a js) (hA : SgnS w aa l) :
    Calls Tryz.prog 22 #[.agg #[.int .i64 L, .slice a js.length ca], .slice aa l.length cl, .int .i64 h] w fun e w' => e = .returned (.tuple #[.slice none 0 0, .int .i64 (lstE L js l [])]) ∧ Below w.heap.size w w' := by
  have H1 := Lib.hid (fun W (hW : Below w.heap.size w W) => listsError_r L a js ca aa l cl none [] 0 W (hI.below hW) (hA.below hW) (ed_nilR W))
  clear hI hA
  generalize lstE L js l [] = E at *
  have d1 : (E != 0) = true := by simp [hV]
  clear hV
  go_enter Tryz.func22, Tryz.ntmps22
  go_wp2_with fail
  obtain ⟨wB, hwB⟩ : ∃ wB, w.alloc (.cells #[.int .i64 L, .slice a js.length ca] 24) = wB := ⟨_, rfl⟩
  have hb : Below w.heap.size w wB := by rw [← hwB]; exact (Below.refl _ _).alloc (Nat.le_refl _) _
  have l0 : wB.cell? ⟨w.heap.size, 0, none⟩ = some (.int .i64 L) := by rw [← hwB]; simp [go_sem]
  have l1 : wB.cell? ⟨w.heap.size, 1, none⟩ = some (.slice a js.length ca) := by rw [← hwB]; simp [go_sem]
  rw [hwB]
  clear hwB
  go_wp2_with (go_at_call 26; refine (H1.out _ hb).mono ?_; rintro e w1 ⟨rfl, hb1⟩)
  go_ret2
  exact ⟨rfl, hb.trans (hb1.mono hb.size)⟩
set_option maxRecDepth 100000 in
set_option maxHeartbeats 1000000 in
theorem Faults_arg (L : Int) (a : Option Addr) (js : List Int) (ca : Nat) (aa : Option Addr) (l : List Sgn) (cl : Nat) (h : Int) (hV : lstE L js l [] = 0) (hx : ((btw h 0 10000000)) = false) (w : World) (hI : IntsS w a js) (hA : SgnS w aa l) :
    Calls Tryz.prog 22 #[.agg #[.int .i64 L, .slice a js.length ca], .slice aa l.length cl, .int .i64 h] w fun e w' => e = .returned (.tuple #[.slice none 0 0, .int .i64 2]) ∧ Below w.heap.size w w' := by
  have hLb := (lst_good hV).1
  have H1 := Lib.hid (fun W (hW : Below w.heap.size w W) => by
    have := listsError_r L a js ca aa l cl none [] 0 W (hI.below hW) (hA.below hW) (ed_nilR W)
    rw [hV] at this
    exact this)
  have K0 := Lib.hid (fun W => isHour_r h W)
  clear hI hA hV hLb
  generalize btw h 0 10000000 = b0 at *
  cases b0 with
  | false =>
    clear hx
    go_enter Tryz.func22, Tryz.ntmps22
    go_wp2_with fail
    obtain ⟨wB, hwB⟩ : ∃ wB, w.alloc (.cells #[.int .i64 L, .slice a js.length ca] 24) = wB := ⟨_, rfl⟩
    have hb : Below w.heap.size w wB := by rw [← hwB]; exact (Below.refl _ _).alloc (Nat.le_refl _) _
    have l0 : wB.cell? ⟨w.heap.size, 0, none⟩ = some (.int .i64 L) := by rw [← hwB]; simp [go_sem]
    have l1 : wB.cell? ⟨w.heap.size, 1, none⟩ = some (.slice a js.length ca) := by rw [← hwB]; simp [go_sem]
    rw [hwB]
    clear hwB
    go_wp2_with (first | (go_at_call 26; refine (H1.out _ hb).mono ?_; rintro e w1 ⟨rfl, hb1⟩; replace hb := hb.trans (hb1.mono hb.size); replace l0 := cell_below l0 hb1; replace l1 := cell_below l1 hb1; clear hb1) | (go_at_call 41; refine (K0.out _).mono ?_; rintro e w2 ⟨rfl, rfl⟩))
    go_ret2
    exact ⟨rfl, hb⟩
  | true =>
    cases hx
/-- Faults with an error. -/
def FltA (X : List Flt) (E : Int) (w : World) (e : Ending) (w' : World) : Prop := ∃ b c, e = .returned (.tuple #[.slice b X.length c, .int .i64 E]) ∧ PairsS w' b X ∧ Below w.heap.size w w'
theorem pairs_nil0 (w : World) : PairsS w none [] := ⟨by decide, fun i hi => absurd hi (Nat.not_lt_zero i), 0, 0, fun h => (h rfl).elim, fun i hi => absurd hi (Nat.not_lt_zero i)⟩
theorem Faults_any (L : Int) (a : Option Addr) (js : List Int) (ca : Nat) (aa : Option Addr) (l : List Sgn) (cl : Nat) (h : Int) (b9 : Bool) (w : World) (hI : IntsS w a js) (hA : SgnS w aa l) :
    Calls Tryz.prog 22 #[.agg #[.int .i64 L, .slice a js.length ca], .slice aa l.length cl, .int .i64 h] w (FltA (if whyK (lineB L js) true (sgnsB L js l) false b9 (btw h 0 10000000) = 0 then refF L js h l else []) (whyK (lineB L js) true (sgnsB L js l) false b9 (btw h 0 10000000)) w) := by
  obtain ⟨k1, k2⟩ := lst_s L js l true b9 (btw h 0 10000000)
  by_cases hV : lstE L js l [] = 0
  · rw [k2 hV]
    cases hx : btw h 0 10000000 with
    | false =>
      rw [if_pos rfl, if_neg (by decide)]
      refine (Faults_arg L a js ca aa l cl h hV hx w hI hA).mono ?_
      rintro e w' ⟨rfl, hb⟩
      exact ⟨none, 0, rfl, pairs_nil0 _, hb⟩
    | true =>
      rw [if_neg (show ¬ (true = false) by decide), if_pos rfl]
      refine (Faults_good L a js ca aa l cl h hV hx w hI hA).mono ?_
      rintro e w' ⟨M, S, b, c, hM, hp, hs, rfl, hS, hb⟩
      have := fault_eq hV hM hp hs
      subst this
      exact ⟨b, c, rfl, hS, hb⟩
  · rw [k1 hV, if_neg hV]
    refine (Faults_bad L a js ca aa l cl h hV w hI hA).mono ?_
    rintro e w' ⟨rfl, hb⟩
    exact ⟨none, 0, rfl, pairs_nil0 _, hb⟩
end Go.Proofs.YtjoffnbpaebgjaaGreat
