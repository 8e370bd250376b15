/-
  The walks of pricesError and of dearest. By an AI agent.
-/
import Derived.Test.YtmeoekcajmgiaaaCutR
import Derived.Test.YtmeoekcajmgiaaaCutC
import Derived.Deep.RegionLaw
import Derived.StillTailTactics
namespace Go.Proofs.Ytmeoekcajmgiaaa
set_option linter.unusedVariables false
set_option linter.unusedSimpArgs false
open Go.RowKit

def prcOk (q : List Int) (j : Nat) : Prop := 0 ≤ gi q j ∧ gi q j ≤ 1000000
def PrcOk (l : List (Int × Int)) (q : List Int) : Prop := q.length = l.length ∧ ∀ j, j < q.length → prcOk q j
open Classical in
noncomputable def prcE (L K : Int) (l : List (Int × Int)) (q : List Int) : Int := if cutB L K l = true then (if PrcOk l q then 0 else 2) else 40

theorem prices1_any (x : Int) (w : World) : Calls Try.prog 43 #[.int .i64 x] w fun e w' => e = .returned (.bool (!(btw x 0 1000000))) ∧ Below w.heap.size w w' := by
  cases h : btw x 0 1000000 with
  | true =>
    have H := Lib.hid h
    clear h
    go_enter Try.func43, Try.ntmps43
    go_wp2_with (go_at_call 32; refine (cbt_any _ _ _ _).mono ?_; rintro e w' ⟨rfl, rfl⟩; rw [H.out])
    go_ret
    exact ⟨rfl, Below.refl _ _⟩
  | false =>
    have H := Lib.hid h
    clear h
    go_enter Try.func43, Try.ntmps43
    go_wp2_with (go_at_call 32; refine (cbt_any _ _ _ _).mono ?_; rintro e w' ⟨rfl, rfl⟩; rw [H.out])
    go_ret
    exact ⟨rfl, Below.refl _ _⟩

set_option maxRecDepth 100000 in
set_option maxHeartbeats 1000000 in
theorem idxPrc_any (ap : Option Addr) (q : List Int) (cq : Nat) (p : Nat → Bool) (w : World) (hQ : IntsS w ap q)
    (hp : ∀ j W, j < q.length → Below w.heap.size w W → Calls Try.prog 43 #[.int .i64 (gi q j)] W fun e w' => e = .returned (.bool (p j)) ∧ Below W.heap.size W w') :
    Calls Try.prog 53 #[.slice ap q.length cq, .func (.func 43) #[] #[]] w fun e w' => e = .returned (.int .i64 (idxK p q.length)) ∧ Below w.heap.size w w' := by
  obtain ⟨hlen, hbd, blk, off, hadr, hc⟩ := hQ
  have HP := Lib.hid hp
  have HC := Lib.hid hc
  have HH : Hid (∀ k, k < q.length → p k = true → (∀ j, j < k → p j = false) → idxK p q.length = k) := Lib.hid fun k hk h hb => idxK_hit h hb _ hk
  have HM : Hid ((∀ j, j < q.length → p j = false) → idxK p q.length = -1) := Lib.hid fun h => idxK_miss _ h
  have HL : Hid (0 < q.length → ap = some ⟨blk, off, none⟩) := Lib.hid fun h => hadr (pos_ne (n := 0) h)
  generalize idxK p q.length = R at *
  clear hp hc hbd hadr
  go_enter Try.func53, Try.ntmps53
  go_wp2_with fail
  go_loopw [8] (fun i wr => ∃ k : Nat, k ≤ q.length ∧ i = .int .i64 k ∧ Below w.heap.size w wr ∧ Hid (∀ j, j < k → p j = false)) (fun i _ => q.length - (intOf i).toNat)
  case atStart => exact ⟨0, Nat.zero_le _, rfl, Below.refl _ _, Lib.hid fun j hj => absurd hj (Nat.not_lt_zero _)⟩
  case round =>
    obtain ⟨k, hk, rfl, hb, HA⟩ := hrel
    by_cases hlt : k < q.length
    · obtain rfl := HL.out (by omega)
      have c0 := cell_below (HC.out k hlt) hb
      have HK := Lib.hid (fun W => HP.out k W hlt)
      have HHk := Lib.hid (HH.out k hlt)
      have HN : Hid (p k = false → ∀ j, j < k + 1 → p j = false) := Lib.hid fun h j hj => by
        by_cases e : j = k
        · subst e; exact h
        · exact HA.out j (by omega)
      clear HP HC HM HL HH
      generalize gi q k = x at *
      cases hpk : p k with
      | true =>
        have HR := Lib.hid (HHk.out hpk HA.out)
        rw [hpk] at HK
        clear hpk HHk HN
        go_wp2_with fail
        refine (HK.out _ hb).mono ?_
        rintro e w1 ⟨rfl, hb1⟩
        go_wp2_with fail
        go_ret
        rw [HR.out]
        exact ⟨rfl, hb.trans (hb1.mono hb.size)⟩
      | false =>
        have HR := Lib.hid (HN.out hpk)
        rw [hpk] at HK
        clear hpk HHk HN
        go_wp2_with fail
        refine (HK.out _ hb).mono ?_
        rintro e w1 ⟨rfl, hb1⟩
        go_wp2_with fail
        go_roundw
        case rel => exact ⟨k + 1, by omega, by go_num, hb.trans (hb1.mono hb.size), HR⟩
        case measure => simp [intOf]; omega
    · obtain rfl : k = q.length := by omega
      have HR := Lib.hid (HM.out HA.out)
      go_wp2_with fail
      go_ret
      rw [HR.out]
      exact ⟨rfl, hb⟩

set_option maxRecDepth 100000 in
theorem containsPrc_any (ap : Option Addr) (q : List Int) (cq : Nat) (w : World) (hQ : IntsS w ap q) :
    Calls Try.prog 42 #[.slice ap q.length cq, .func (.func 43) #[] #[]] w fun e w' => e = .returned (.bool (anyK (fun j => !(btw (gi q j) 0 1000000)) q.length)) ∧ Below w.heap.size w w' := by
  have H := Lib.hid (idxPrc_any ap q cq (fun j => !(btw (gi q j) 0 1000000)) w hQ fun j W hj hW => prices1_any _ W)
  have hq := Lib.hid (idxK_any (fun j => !(btw (gi q j) 0 1000000)) q.length)
  clear hQ
  generalize idxK (fun j => !(btw (gi q j) 0 1000000)) q.length = R at *
  generalize anyK (fun j => !(btw (gi q j) 0 1000000)) q.length = B at *
  have hq := hq.out
  subst hq
  go_enter Try.func42, Try.ntmps42
  go_wp2_with fail
  refine H.out.mono ?_
  rintro e w1 ⟨rfl, hb1⟩
  go_wp2_with fail
  all_goals
    go_ret
    exact ⟨by simp_all, hb1⟩

set_option maxRecDepth 100000 in
set_option maxHeartbeats 1000000 in
theorem pricesError_any (L K : Int) (aa : Option Addr) (l : List (Int × Int)) (ca : Nat) (ap : Option Addr) (q : List Int) (cq : Nat) (w : World) (hA : PairsS w aa l) (hQ : IntsS w ap q) :
    Calls Try.prog 28 #[.agg #[.int .i64 L, .int .i64 K, .slice aa l.length ca], .slice ap q.length cq] w fun e w' => e = .returned (.int .i64 (prcE L K l q)) ∧ Below w.heap.size w w' := by
  have HV := Lib.hid (fun W (hW : Below w.heap.size w W) => Valid_any L K aa l ca W (hA.below hW))
  have HF := Lib.hid (fun W (hW : Below w.heap.size w W) => containsPrc_any ap q cq W (hQ.below hW))
  have hS := InBox.start w L K (.slice aa l.length ca) 24
  have la := hA.1
  have lq := hQ.1
  by_cases hv : cutB L K l = true
  · by_cases hl : q.length = l.length
    · have e2 : prcE L K l q = if anyK (fun j => !(btw (gi q j) 0 1000000)) q.length = true then 2 else 0 := by
        unfold prcE
        rw [if_pos hv]
        cases h : anyK (fun j => !(btw (gi q j) 0 1000000)) q.length with
        | false =>
          rw [if_pos, if_neg (by simp)]
          refine ⟨hl, fun j hj => ?_⟩
          have := (anyK_iff _).1 h j hj
          simp only [Bool.not_eq_false', btw_iff] at this
          exact this
        | true =>
          rw [if_neg, if_pos rfl]
          intro g
          rw [(anyK_iff _).2 fun j hj => ?_] at h
          · cases h
          · have := g.2 j hj
            unfold prcOk at this
            simp only [Bool.not_eq_false', btw_iff]
            exact this
      rw [e2]
      rw [hv] at HV
      rw [hl] at HF ⊢
      clear hA hQ e2 hv
      generalize anyK (fun j => !(btw (gi q j) 0 1000000)) l.length = R at *
      go_enter Try.func28, Try.ntmps28
      go_wp2_with fail
      refine (HV.out _ hS.1).mono ?_
      rintro e w1 ⟨rfl, hb1⟩
      obtain ⟨hb, p0, p1, p2⟩ := hS.on hb1
      go_wp2_with fail
      refine (HF.out _ hb).mono ?_
      rintro e w2 ⟨rfl, hb2⟩
      cases R with
      | true =>
        go_wp2_with fail
        go_ret
        exact ⟨rfl, hb.trans (hb2.mono hb.size)⟩
      | false =>
        go_wp2_with fail
        go_ret
        exact ⟨rfl, hb.trans (hb2.mono hb.size)⟩
    · have e2 : prcE L K l q = 2 := by unfold prcE; rw [if_pos hv, if_neg fun h => hl h.1]
      have hl2 : ¬ (q.length : Int) = (l.length : Int) := by omega
      rw [e2]
      rw [hv] at HV
      clear hA hQ HF e2 hv
      go_enter Try.func28, Try.ntmps28
      go_wp2_with fail
      refine (HV.out _ hS.1).mono ?_
      rintro e w1 ⟨rfl, hb1⟩
      obtain ⟨hb, p0, p1, p2⟩ := hS.on hb1
      go_wp2_with fail
      go_ret
      exact ⟨rfl, hb⟩
  · have hv : cutB L K l = false := by simpa using hv
    have e2 : prcE L K l q = 40 := by unfold prcE; rw [hv]; rfl
    rw [e2]
    rw [hv] at HV
    clear hA hQ HF e2 hv
    go_enter Try.func28, Try.ntmps28
    go_wp2_with fail
    refine (HV.out _ hS.1).mono ?_
    rintro e w1 ⟨rfl, hb1⟩
    obtain ⟨hb, p0, p1, p2⟩ := hS.on hb1
    go_wp2_with fail
    go_ret
    exact ⟨rfl, hb⟩
end Go.Proofs.Ytmeoekcajmgiaaa
