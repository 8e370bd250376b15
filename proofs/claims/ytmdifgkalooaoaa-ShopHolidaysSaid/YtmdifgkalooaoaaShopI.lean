/-
  The walk of Valid of package shop. By an AI agent.
-/
import Derived.Test.YtmdifgkalooaoaaShopH
namespace Go.Proofs.Ytmdifgkalooaoaa
set_option linter.unusedVariables false
set_option linter.unusedSimpArgs false
open Go.RowKit

open Classical in
noncomputable def holB (l : List Int) : Bool := decide (HolOk l)
theorem holB_iff {l : List Int} : holB l = true ↔ HolOk l := by unfold holB; simp
theorem holB_t {l : List Int} (h : HolOk l) : holB l = true := holB_iff.2 h
theorem holB_f {l : List Int} (h : ¬ HolOk l) : holB l = false := by rw [Bool.eq_false_iff]; exact fun g => h (holB_iff.1 g)
def MachOk (s : Sh) : Prop := (1 ≤ s.M ∧ s.M ≤ 6) ∧ (s.S.length : Int) = s.M ∧ ∀ j, j < s.S.length → setAt s.S j
open Classical in
noncomputable def machB (s : Sh) : Bool := decide (MachOk s)
theorem machB_iff {s : Sh} : machB s = true ↔ MachOk s := by unfold machB; simp
theorem machB_t {s : Sh} (h : MachOk s) : machB s = true := machB_iff.2 h
theorem machB_f {s : Sh} (h : ¬ MachOk s) : machB s = false := by rw [Bool.eq_false_iff]; exact fun g => h (machB_iff.1 g)
def JobsOk (s : Sh) : Prop := s.J.length ≤ 12 ∧ ∀ i, i < s.J.length → jobOk s.O s.C s.M (gj s.J i)
open Classical in
noncomputable def jobsB (s : Sh) : Bool := decide (JobsOk s)
theorem jobsB_iff {s : Sh} : jobsB s = true ↔ JobsOk s := by unfold jobsB; simp
theorem jobsB_t {s : Sh} (h : JobsOk s) : jobsB s = true := jobsB_iff.2 h
theorem jobsB_f {s : Sh} (h : ¬ JobsOk s) : jobsB s = false := by rw [Bool.eq_false_iff]; exact fun g => h (jobsB_iff.1 g)
open Classical in
noncomputable def shB (s : Sh) : Bool := decide (ShOk s)
theorem shB_iff {s : Sh} : shB s = true ↔ ShOk s := by unfold shB; simp
theorem shB_t {s : Sh} (h : ShOk s) : shB s = true := shB_iff.2 h
theorem shB_f {s : Sh} (h : ¬ ShOk s) : shB s = false := by rw [Bool.eq_false_iff]; exact fun g => h (shB_iff.1 g)

set_option maxRecDepth 100000 in
set_option maxHeartbeats 1000000 in
theorem holValid_any (aa : Option Addr) (l : List Int) (ca : Nat) (w : World) (hI : IntsS w aa l) :
    Calls Try.prog 50 #[.slice aa l.length ca] w fun e w' => e = .returned (.bool (holB l)) ∧ Below w.heap.size w w' := by
  obtain ⟨hlen, hbd, blk, off, hadr, hc⟩ := hI
  have HC := Lib.hid hc
  have HL : Hid (0 < l.length → aa = some ⟨blk, off, none⟩) := Lib.hid fun h => hadr (fun e => by rw [e] at h; simp at h)
  have HT : Hid (l.length ≤ 400 → (∀ j, j < l.length → hokAt l j) → holB l = true) := Lib.hid fun h1 h2 => holB_t ⟨h1, h2⟩
  have HF : Hid (∀ k, k < l.length → ¬ hokAt l k → holB l = false) := Lib.hid fun k hk h => holB_f fun g => h (g.2 k hk)
  have HG : Hid (¬ l.length ≤ 400 → holB l = false) := Lib.hid fun h => holB_f fun g => h g.1
  generalize holB l = R at *
  clear hc hadr hbd
  by_cases h4 : l.length ≤ 400
  · have hn : ¬ (400 : Int) < l.length := by omega
    have HT := Lib.hid (HT.out h4)
    clear HG
    go_enter Try.func50, Try.ntmps50
    go_wp2_with fail
    go_loopw [3, 11] (fun x i wr => ∃ k : Nat, k ≤ l.length ∧ i = .int .i64 k ∧ (∃ b : Int, x = .int .i64 b ∧ -1 ≤ b ∧ b ≤ 10000 ∧ Hid ((k = 0 ∧ b = -1) ∨ (0 < k ∧ b = gi l (k - 1)))) ∧ Below w.heap.size w wr ∧ Hid (∀ j, j < k → hokAt l j)) (fun _ i _ => l.length - (intOf i).toNat)
    case atStart => exact ⟨0, Nat.zero_le _, rfl, ⟨-1, rfl, by omega, by omega, Lib.hid (.inl ⟨rfl, rfl⟩)⟩, Below.refl _ _, Lib.hid fun j hj => absurd hj (Nat.not_lt_zero _)⟩
    case round =>
      obtain ⟨k, hk, rfl, ⟨b, rfl, b0, b1, HX⟩, hb, HA⟩ := hrel
      by_cases hlt : k < l.length
      · obtain rfl := HL.out (by omega)
        have c0 := cell_below (HC.out k hlt) hb
        have HK : Hid (hokAt l k → ∀ j, j < k + 1 → hokAt l j) := Lib.hid fun h j hj => by
          by_cases e : j = k
          · subst e; exact h
          · exact HA.out j (by omega)
        have HFk := Lib.hid (HF.out k hlt)
        have HE : Hid (hokAt l k ↔ b + 1 ≤ gi l k ∧ gi l k ≤ 10000) := Lib.hid (by
          unfold hokAt
          rcases HX.out with ⟨rfl, rfl⟩ | ⟨h1, rfl⟩
          · simp
          · have := (HA.out (k - 1) (by omega)).1
            constructor
            · rintro ⟨x1, x2, x3 | x3⟩
              · omega
              · omega
            · rintro ⟨x1, x2⟩; exact ⟨by omega, x2, .inr (by omega)⟩)
        have HN : Hid ((k + 1 = 0 ∧ gi l k = -1) ∨ (0 < k + 1 ∧ gi l k = gi l (k + 1 - 1))) := Lib.hid (.inr ⟨by omega, by rw [Nat.add_sub_cancel]⟩)
        clear HC HL HT HF HX
        generalize hgx : gi l k = x at c0 HE HN
        clear hgx
        by_cases hx : b + 1 ≤ x ∧ x ≤ 10000
        · have HR := Lib.hid (HK.out (HE.out.2 hx))
          have HB := Lib.hid (btw_t hx.1 hx.2)
          obtain ⟨x1, x2⟩ := hx
          clear HK HE HFk
          go_wp2_with (go_at_call 53; refine (sbt_any _ _ _ _).mono ?_; rintro e w' ⟨rfl, rfl⟩; rw [HB.out])
          go_roundw
          case rel => exact ⟨k + 1, by omega, by go_num, ⟨x, rfl, by omega, by omega, HN⟩, hb, HR⟩
          case measure => simp [intOf]; omega
        · have HR := Lib.hid (HFk.out (fun h => hx (HE.out.1 h)))
          have HB := Lib.hid (btw_f hx)
          clear HK HE HFk hx
          go_wp2_with (go_at_call 53; refine (sbt_any _ _ _ _).mono ?_; rintro e w' ⟨rfl, rfl⟩; rw [HB.out])
          go_ret
          rw [HR.out]
          exact ⟨rfl, hb⟩
      · obtain rfl : k = l.length := by omega
        have HR := Lib.hid (HT.out HA.out)
        clear HC HL HT HF HX hlt
        go_wp2_with fail
        go_ret
        rw [HR.out]
        exact ⟨rfl, hb⟩
  · have hn : (400 : Int) < l.length := by omega
    have HR := Lib.hid (HG.out h4)
    clear HG HT HF HC HL
    go_enter Try.func50, Try.ntmps50
    go_wp2_with fail
    go_ret
    rw [HR.out]
    exact ⟨rfl, Below.refl _ _⟩

theorem mach1_any (x : Int) (w : World) : Calls Try.prog 87 #[.int .i64 x] w fun e w' => e = .returned (.bool (!(btw x 0 1000))) ∧ Below w.heap.size w w' := by
  go_enter Try.func87, Try.ntmps87
  go_wp2_with (go_at_call 53; refine (sbt_any _ _ _ _).mono ?_; rintro e w' ⟨rfl, rfl⟩)
  go_ret
  exact ⟨rfl, Below.refl _ _⟩

set_option maxRecDepth 100000 in
set_option maxHeartbeats 1000000 in
theorem machValid_any (s : Sh) (w : World) (hI : IntsS w s.aS s.S) :
    Calls Try.prog 51 #[.agg #[.int .i64 s.O, .int .i64 s.C, .slice s.aH s.H.length s.cH, .int .i64 s.M, .slice s.aS s.S.length s.cS, .slice s.aJ s.J.length s.cJ]] w fun e w' => e = .returned (.bool (machB s)) ∧ Below w.heap.size w w' := by
  have hlen := hI.1
  have HCt : Hid (∀ W, Below w.heap.size w W → Calls Try.prog 86 #[.slice s.aS s.S.length s.cS, .func (.func 87) #[] #[]] W fun e w' => e = .returned (.bool (anyK (fun j => !(btw (gi s.S j) 0 1000)) s.S.length)) ∧ Below W.heap.size W w') :=
    Lib.hid fun W hW => containsInt_any s.aS s.S s.cS #[] _ W (hI.below hW) (fun j W' hj hW' => mach1_any _ W')
  have HV : Hid ((1 ≤ s.M ∧ s.M ≤ 6) → (s.S.length : Int) = s.M → machB s = !(anyK (fun j => !(btw (gi s.S j) 0 1000)) s.S.length)) := Lib.hid fun h1 h2 => by
    cases h : anyK (fun j => !(btw (gi s.S j) 0 1000)) s.S.length with
    | false =>
      refine machB_t ⟨h1, h2, fun j hj => ?_⟩
      have := (anyK_iff _).1 h j hj
      simp only [Bool.not_eq_false', btw_iff] at this
      exact this
    | true =>
      refine machB_f fun g => ?_
      rw [(anyK_iff _).2 fun j hj => ?_] at h
      · cases h
      · have := g.2.2 j hj
        unfold setAt at this
        simp only [Bool.not_eq_false', btw_iff]
        exact this
  have HF1 : Hid (¬ (1 ≤ s.M ∧ s.M ≤ 6) → machB s = false) := Lib.hid fun h => machB_f fun g => h g.1
  have HF2 : Hid ((s.S.length : Int) ≠ s.M → machB s = false) := Lib.hid fun h => machB_f fun g => h g.2.1
  have hB := ShBox.start w s 25
  generalize anyK (fun j => !(btw (gi s.S j) 0 1000)) s.S.length = K at *
  generalize machB s = R at *
  clear hI
  by_cases h1 : 1 ≤ s.M ∧ s.M ≤ 6
  · have HB := Lib.hid (btw_t h1.1 h1.2)
    by_cases h2 : (s.S.length : Int) = s.M
    · have HR := Lib.hid (HV.out h1 h2)
      have h2' : ((s.S.length : Int) != s.M) = false := by simpa using h2
      clear HV HF1 HF2 h1 h2
      go_enter Try.func51, Try.ntmps51
      go_wp2_with (go_at_call 53; refine (sbt_any _ _ _ _).mono ?_; rintro e w' ⟨rfl, rfl⟩; rw [HB.out])
      obtain ⟨wB, hwB⟩ : ∃ wB, w.alloc (.cells #[.int .i64 s.O, .int .i64 s.C, .slice s.aH s.H.length s.cH, .int .i64 s.M, .slice s.aS s.S.length s.cS, .slice s.aJ s.J.length s.cJ] 25) = wB := ⟨_, rfl⟩
      rw [hwB] at hB ⊢
      clear hwB
      refine (HCt.out _ hB.1).mono ?_
      rintro e w1 ⟨rfl, hb1⟩
      go_wp2_with fail
      all_goals
        go_ret
        rw [HR.out]
        exact ⟨by first | rfl | simp_all, hB.1.trans (hb1.mono hB.1.size)⟩
    · have HR := Lib.hid (HF2.out h2)
      have h2' : ((s.S.length : Int) != s.M) = true := by simpa using h2
      clear HV HF1 HF2 h1 h2
      go_enter Try.func51, Try.ntmps51
      go_wp2_with (go_at_call 53; refine (sbt_any _ _ _ _).mono ?_; rintro e w' ⟨rfl, rfl⟩; rw [HB.out])
      go_ret
      rw [HR.out]
      exact ⟨rfl, hB.1⟩
  · have HB := Lib.hid (btw_f h1)
    have HR := Lib.hid (HF1.out h1)
    clear HV HF1 HF2 h1
    go_enter Try.func51, Try.ntmps51
    go_wp2_with (go_at_call 53; refine (sbt_any _ _ _ _).mono ?_; rintro e w' ⟨rfl, rfl⟩; rw [HB.out])
    go_ret
    rw [HR.out]
    exact ⟨rfl, hB.1⟩

def stpB (O C M : Int) (p : Stp) : Bool := btw p.1 0 (M - 1) && (btw p.2.1 1 (C - O) && (btw p.2.2.1 0 9 && btw p.2.2.2 0 10000))
theorem stpB_iff {O C M : Int} {p : Stp} : stpB O C M p = true ↔ stpOk O C M p := by
  unfold stpB stpOk; rw [Bool.and_eq_true, Bool.and_eq_true, Bool.and_eq_true, btw_iff, btw_iff, btw_iff, btw_iff]

set_option maxRecDepth 100000 in
set_option maxHeartbeats 1000000 in
/-- The closure of jobsValid for a step: it is wrong. -/
theorem jobs1_any (s : Sh) (x : Stp) (b : Nat) (w : World) (o0 : 0 ≤ s.O) (o1 : s.O < s.C) (o2 : s.C ≤ 1440) (m0 : 1 ≤ s.M) (m1 : s.M ≤ 6) (hS : ShAt w b s) :
    Calls Try.prog 88 #[.agg #[.int .i64 x.1, .int .i64 x.2.1, .int .i64 x.2.2.1, .int .i64 x.2.2.2], .pointer (some ⟨b, 0, none⟩)] w fun e w' => e = .returned (.bool (!(stpB s.O s.C s.M x))) ∧ Below w.heap.size w w' := by
  unfold stpB
  obtain ⟨x0, x1, x2, x3⟩ := x
  dsimp only
  obtain ⟨p0, p1, p2, p3, p4, p5⟩ := hS
  have z0 := block_lt p0
  have q : ∀ o O, (w.alloc O).cell? ⟨b, o, none⟩ = w.cell? ⟨b, o, none⟩ := fun o O => ((Below.refl w.heap.size w).alloc (Nat.le_refl _) O).cell (p := ⟨b, o, none⟩) z0
  have n1 : b ≠ w.heap.size := by omega
  generalize hg0 : btw x0 0 (s.M - 1) = g0
  generalize hg1 : btw x1 1 (s.C - s.O) = g1
  generalize hg2 : btw x2 0 9 = g2
  generalize hg3 : btw x3 0 10000 = g3
  have G0 := Lib.hid hg0
  have G1 := Lib.hid hg1
  have G2 := Lib.hid hg2
  have G3 := Lib.hid hg3
  clear hg0 hg1 hg2 hg3
  go_enter Try.func88, Try.ntmps88
  go_wp2_with (go_at_call 53; refine (sbt_any _ _ _ _).mono ?_; rintro e w' ⟨rfl, rfl⟩; first | rw [G0.out] | rw [G1.out] | rw [G2.out] | rw [G3.out])
  all_goals
    go_ret
    exact ⟨by first | rfl | simp_all, (Below.refl _ _).alloc (Nat.le_refl _) _⟩
end Go.Proofs.Ytmdifgkalooaoaa
