/-
  slices.Clone of ints; replaced and done of package night. By an AI agent.
-/
import Derived.Test.YtghlhjiomebmhaaNiK
import Derived.Test.YtghlhjiomebmhaaNiZ
import Derived.Test.YtghlhjiomebmhaaLightLay
import Derived.Shelf.SlicesE.Clone
import Derived.Deep.RegionHeld3
import Derived.BigQuiet
namespace Go.Proofs.Ytghlhjiomebmhaa
set_option linter.unusedVariables false
set_option linter.unusedSimpArgs false
open Go.RowKit Go.Shelf

set_option maxRecDepth 100000 in
theorem clone0_i (p : Addr) (c : Nat) (w : World) :
    Calls Try.prog 65 #[.slice (some p) 0 c] w fun e w' => e = .returned (.slice (some ⟨w.heap.size, 0, none⟩) 0 0) ∧ w'.ownsRow w.heap.size 3 1 (.slice (some ⟨w.heap.size, 0, none⟩) 0 0) 0 [] ∧ Below w.heap.size w w' := by
  obtain ⟨i0, hi, hz0, hz1, hz2⟩ := info_parts infoInt
  have q22 : ∀ (w : World) (a : Option Addr) (n c n' c' : Nat), (binOp .eql 26 (.slice a n c) (.slice none n' c')).run Try.prog w = .ok (.bool a.isNone) w := fun w a n c n' c' => Lib.run_eql_slice_nil w _ _ a n c n' c' Try.underlying26
  have hown : Hid ((w.alloc (.cells #[] 3)).ownsRow w.heap.size 3 1 (.slice (some ⟨w.heap.size, 0, none⟩) 0 0) 0 []) := Lib.hid (World.ownsRow_made w #[] 0 (Nat.le_refl _) (Nat.zero_le _) (by simp))
  go_enter Try.func65, Try.ntmps65
  go_wp2_with (first | (at_builtin; go_loud (refine wpList_append_zero rfl _ _ 26 (by rfl) w.heap.size 3 i0 1 Try.underlying26 hi (.slice (some ⟨w.heap.size, 0, none⟩) 0 0) 0 _ (by rfl) hown.out (some p) c (by rfl) ?_)))
  go_wp2_with fail
  go_ret
  exact ⟨rfl, hown.out, (Below.refl _ _).alloc (Nat.le_refl _) _⟩
theorem clI_one (l : List Int) : ∀ u ∈ clI l, u.oneCell' = true := by
  intro u hu
  simp [clI] at hu
  obtain ⟨x, _, rfl⟩ := hu
  rfl
/-- slices.Clone of ints. -/
theorem clone_i (a : Option Addr) (l : List Int) (c : Nat) (w : World) (hA : IntsC w a l) (hn : l.length ≤ 100000000) :
    Calls Try.prog 65 #[.slice a l.length c] w fun e w' => ∃ b c', e = .returned (.slice b l.length c') ∧ w'.ownsRow w.heap.size 3 1 (.slice b l.length c') l.length (clI l) ∧ (a ≠ none → b ≠ none) ∧ Below w.heap.size w w' := by
  obtain ⟨hlen, blk, off, hadr, hc⟩ := hA
  by_cases hne : l = []
  · subst hne
    cases a with
    | none =>
      have := AnyE.slices_Clone_nil Try.laysCloneI 0 c w
      change Calls Try.prog 65 _ _ _ at this
      exact this.mono fun e w' ⟨he, hw⟩ => ⟨none, 0, he, by subst hw; exact ⟨rfl, .inl ⟨rfl, rfl⟩⟩, fun h => absurd rfl h, by subst hw; exact Below.refl _ _⟩
    | some p => exact (clone0_i p c w).mono fun e w' ⟨he, ho, hb⟩ => ⟨_, _, he, ho, fun _ => by simp, hb⟩
  · obtain ⟨i0, hi, hz0, hz1, hz2⟩ := info_parts infoInt
    obtain rfl := hadr hne
    have hcell : ∀ j u, (clI l)[j]? = some u → w.cell? ⟨blk, off + j, none⟩ = some u := fun j u h => by
      have hj : j < l.length := by
        rw [← clI_len]
        rw [List.getElem?_eq_some_iff] at h
        exact h.1
      rw [clI_get l hj] at h
      cases h
      exact hc j hj
    have := AnyE.slices_Clone Try.laysCloneI i0 _ 1 8 hi hz0 hz1 hz2 (by rfl) (by decide) Try.sizeOf3 blk off l.length c (clI l) w (by rw [clI_len]; omega) (by unfold maxLen; omega) (by omega) hcell (clI_one l)
    change Calls Try.prog 65 _ _ _ at this
    refine this.mono ?_
    rintro e w' ⟨v', he, ho, hz, hb⟩
    rcases ho.2 with ⟨h1, h2⟩ | ⟨g2, c2, cur, h1, h2⟩
    · exact absurd (List.eq_nil_of_length_eq_zero h2) hne
    · subst h1
      exact ⟨_, _, he, ho, fun _ => by simp, hb⟩
/-- A plan comes back. -/
def PlnE (w : World) (l : List Int) (e : Ending) (w' : World) : Prop :=
  ∃ g c, e = .returned (.slice (some ⟨g, 0, none⟩) l.length c) ∧ PlanR w' g l ∧ w.heap.size ≤ g ∧ g < w'.heap.size ∧ Below w.heap.size w w'
theorem planR_own {w : World} {base c : Nat} {b : Option Addr} {l : List Int} (h : w.ownsRow base 3 1 (.slice b l.length c) l.length (clI l)) (hb : b ≠ none) : ∃ g, b = some ⟨g, 0, none⟩ ∧ base ≤ g ∧ g < w.heap.size ∧ PlanR w g l := by
  rcases h.2 with ⟨h1, h2⟩ | ⟨g2, c2, cur, h1, hg, hgb, _⟩
  · exact absurd (by simpa using (show b = none ∧ _ from by simpa using h1).1) hb
  · obtain ⟨rfl, rfl⟩ : b = some ⟨g2, 0, none⟩ ∧ c = c2 := by simpa using h1
    refine ⟨g2, rfl, hg, (Array.getElem?_eq_some_iff.1 hgb).1, fun i hi => ?_, fun i hi => World.ownsRow.frozenAt h i⟩
    rw [World.ownsRow.cellAt h i (by omega)]; exact clI_get l hi
theorem clone_p (a : Addr) (l : List Int) (c : Nat) (w : World) (hA : IntsC w (some a) l) (hn : l.length ≤ 100000000) :
    Calls Try.prog 65 #[.slice (some a) l.length c] w fun e w' => PlnE w l e w' :=
  (clone_i (some a) l c w hA hn).mono fun e w' ⟨b, c', he, ho, hb, hw⟩ => by
    obtain ⟨g, rfl, h1, h2, h3⟩ := planR_own ho (hb (by simp))
    exact ⟨g, c', he, h3, h1, h2, hw⟩
/-- A plan with one night in place of another, in the first k places. -/
def rplK (l : List Int) (x y : Int) : Nat → List Int
  | 0 => l
  | k + 1 => if gi l k = x then (rplK l x y k).set k y else rplK l x y k
theorem rplK_len (l : List Int) (x y : Int) : ∀ k, (rplK l x y k).length = l.length
  | 0 => rfl
  | k + 1 => by unfold rplK; split <;> simp [rplK_len l x y k]
set_option maxRecDepth 100000 in
set_option maxHeartbeats 2000000 in
theorem replaced_r (a : Addr) (l : List Int) (ca : Nat) (x y : Int) (w : World) (hA : IntsC w (some a) l) (hn : l.length ≤ 100000) :
    Calls Try.prog 46 #[.slice (some a) l.length ca, .int .i64 x, .int .i64 y] w fun e w' => PlnE w (rplK l x y l.length) e w' := by
  have HCl := Lib.hid (clone_p a l ca w hA (by omega))
  obtain ⟨hlen, blk, off, hadr, hc⟩ := hA
  have HC : Hid (∀ i, i < l.length → a = ⟨blk, off, none⟩ ∧ w.cell? ⟨blk, off + i, none⟩ = some (.int .i64 (gi l i))) := Lib.hid fun i hi => ⟨by simpa using hadr (pos_ne (n := 0) hi), hc i hi⟩
  have HS : Hid (∀ k, rplK l x y (k + 1) = if gi l k = x then (rplK l x y k).set k y else rplK l x y k) := Lib.hid fun k => rfl
  have HN : Hid (∀ k, (rplK l x y k).length = l.length) := Lib.hid (rplK_len l x y)
  have H0 : Hid (rplK l x y 0 = l) := Lib.hid rfl
  clear hc hadr
  go_enter Try.func46, Try.ntmps46
  go_wp2_with fail
  refine HCl.out.mono ?_
  rintro e wo ⟨g, cg, rfl, hpo, hg1, hg2, hbo⟩
  have hpo := Lib.hid hpo
  clear HCl
  go_wp2_with fail
  go_loopw [14] (fun i wr => ∃ k : Nat, k ≤ l.length ∧ i = .int .i64 k ∧ Hid (PlanR wr g (rplK l x y k)) ∧ Hid (Below w.heap.size w wr) ∧ g < wr.heap.size) (fun i _ => l.length - (intOf i).toNat)
  case atStart => exact ⟨0, Nat.zero_le _, rfl, by rw [H0.out]; exact hpo, Lib.hid hbo, hg2⟩
  case round =>
    obtain ⟨k, hk, rfl, HP, hb, hgw⟩ := hrel
    clear hpo hbo hg2
    by_cases hlt : k < l.length
    · obtain ⟨rfl, c0⟩ := HC.out k hlt
      have c0 := cell_below c0 hb.out
      have hSk := Lib.hid (HS.out k)
      have hNk := Lib.hid (HN.out k)
      clear HC HS HN H0
      generalize hgi : gi l k = v at *
      by_cases hv : v = x
      · have hvd : (v == x) = true := by simpa using hv
        have hS1 := Lib.hid (hSk.out.trans (if_pos hv))
        have hkp : k < (rplK l x y k).length := by rw [hNk.out]; exact hlt
        have cg := HP.out.1 k hkp
        have fg := HP.out.2 k hkp
        have hP2 := Lib.hid (HP.out.store hkp y)
        have hb2 := Lib.hid (hb.out.setCell (p := ⟨g, k, none⟩) hg1 (.int .i64 y))
        clear hv hgi hSk hkp HP hNk
        go_wp2_with fail
        go_roundw
        case rel => exact ⟨k + 1, by omega, by go_num, by rw [hS1.out]; exact hP2, hb2, by simpa using hgw⟩
        case measure => simp [intOf]; omega
      · have hvd : (v == x) = false := beq_false_of_ne hv
        have hS1 := Lib.hid (hSk.out.trans (if_neg hv))
        clear hv hgi hSk hNk
        go_wp2_with fail
        go_roundw
        case rel => exact ⟨k + 1, by omega, by go_num, by rw [hS1.out]; exact HP, hb, hgw⟩
        case measure => simp [intOf]; omega
    · obtain rfl : k = l.length := by omega
      go_wp2_with fail
      go_ret
      exact ⟨g, cg, by rw [HN.out]; rfl, HP.out, hg1, hgw, hb.out⟩
/-- How many jobs of a plan have a night. -/
def dnN (l : List Int) : Int := l.length - cntN l (-1)
theorem cntN_le (l : List Int) (x : Int) : 0 ≤ cntN l x ∧ cntN l x ≤ l.length := by
  have := selK_len (fun k => gi l k == x) l.length
  unfold cntN
  exact ⟨by omega, by omega⟩
set_option maxRecDepth 100000 in
theorem done_r (a : Option Addr) (l : List Int) (ca : Nat) (w : World) (hA : IntsC w a l) (hn : l.length ≤ 100000) :
    Calls Try.prog 32 #[.slice a l.length ca] w fun e w' => e = .returned (.int .i64 (dnN l)) ∧ Below w.heap.size w w' := by
  have HC := Lib.hid (count_r a l ca (-1) w hA hn)
  have hX : Hid (dnN l = l.length - cntN l (-1)) := Lib.hid rfl
  obtain ⟨h1, h2⟩ := cntN_le l (-1)
  generalize cntN l (-1) = C at *
  have hw : IntKind.i64.wrap ((l.length : Int) - C) = l.length - C := IntWalk.i64_in _ (by omega)
  clear hA
  go_enter Try.func32, Try.ntmps32
  go_wp2_with fail
  refine HC.out.mono ?_
  rintro e w1 ⟨rfl, hb1⟩
  go_wp2_with fail
  go_ret
  exact ⟨by rw [hX.out]; rfl, hb1⟩
end Go.Proofs.Ytghlhjiomebmhaa
