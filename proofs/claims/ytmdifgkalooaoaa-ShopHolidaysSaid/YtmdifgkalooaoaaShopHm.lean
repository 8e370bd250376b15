/-
  One more holiday never makes Next, After, Chain or Load earlier: plain mathematics. By an AI agent.
-/
import Derived.Test.YtmdifgkalooaoaaShopU
namespace Go.Proofs.Ytmdifgkalooaoaa
set_option linter.unusedVariables false
set_option linter.unusedSimpArgs false
open Go.RowKit

/-- Each holiday of the one list is one of the other. -/
def HolSub (l l' : List Int) : Prop := ∀ d, hol l d = true → hol l' d = true
theorem holSub_of {l l' : List Int} (h : ∀ j, j < l.length → gi l j ∈ l') : HolSub l l' := fun d hd => by
  obtain ⟨j, hj, e⟩ := hol_iff.1 hd
  have hm := h j hj
  rw [e] at hm
  obtain ⟨i, hi, hx⟩ := List.mem_iff_getElem.1 hm
  exact hol_iff.2 ⟨i, hi, by unfold gi; rw [List.getD_eq_getElem?_getD, List.getElem?_eq_getElem hi]; exact hx⟩
theorem inSh_sub {O C : Int} {l l' : List Int} (h : HolSub l l') {t m : Int} (g : InSh O C l' t m) : InSh O C l t m := by
  refine ⟨?_, g.2⟩
  cases e : hol l (t / 1440) with
  | false => rfl
  | true => have g1 := g.1; rw [h _ e] at g1; exact g1
theorem next_sub {O C : Int} {l l' : List Int} (h : HolSub l l') {t t' m x x' : Int} (ht : t ≤ t') (hx : IsNext O C l t m x) (hx' : IsNext O C l' t' m x') : x ≤ x' := by
  by_cases g : x ≤ x'
  · exact g
  · exact absurd (inSh_sub h hx'.2.1) (hx.2.2 x' (by have := hx'.1; omega) (by omega))
theorem opn_sub {O C : Int} {l l' : List Int} (h : HolSub l l') (hA : Asc l) (hA' : Asc l') (o0 : 0 ≤ O) (oc : O < C) (o1 : C ≤ 1440) (t : Int) : ∀ n : Nat, opnB O C l' (t + n) - opnB O C l' t ≤ opnB O C l (t + n) - opnB O C l t
  | 0 => by simp
  | n + 1 => by
    have ih := opn_sub h hA hA' o0 oc o1 t n
    have e : t + ((n + 1 : Nat) : Int) = t + n + 1 := by omega
    rw [e]
    have a0 := opnB_day (O := O) (C := C) hA o0 oc o1 (d := (t + n) / 1440) (t := t + n) (by omega) (by omega)
    have a1 := opnB_day (O := O) (C := C) hA o0 oc o1 (d := (t + n) / 1440) (t := t + n + 1) (by omega) (by omega)
    have b0 := opnB_day (O := O) (C := C) hA' o0 oc o1 (d := (t + n) / 1440) (t := t + n) (by omega) (by omega)
    have b1 := opnB_day (O := O) (C := C) hA' o0 oc o1 (d := (t + n) / 1440) (t := t + n + 1) (by omega) (by omega)
    cases g : hol l ((t + n) / 1440) with
    | true =>
      have g' := h _ g
      rw [g] at a0 a1
      rw [g'] at b0 b1
      simp only [if_true] at a0 a1 b0 b1
      omega
    | false =>
      rw [g] at a0 a1
      simp only [Bool.false_eq_true, if_false] at a0 a1
      split at b0 <;> split at b1 <;> omega
theorem aft_sub {O C : Int} {l l' : List Int} (h : HolSub l l') (hA : Asc l) (hA' : Asc l') (o0 : 0 ≤ O) (oc : O < C) (o1 : C ≤ 1440) {t m x x' : Int} (hx : IsAft O C l t m x) (hx' : IsAft O C l' t m x') : x ≤ x' := by
  by_cases g : x ≤ x'
  · exact g
  · have h1 := hx.2.2 x' hx'.1 (by omega)
    have h2 := opn_sub h hA hA' o0 oc o1 t (x' - t).toNat
    rw [show t + ((x' - t).toNat : Int) = x' by have := hx'.1; omega] at h2
    have := hx'.2.1
    omega
theorem chain_sub {s s' : Sh} (h : HolSub s.H s'.H) (hO : s'.O = s.O) (hC : s'.C = s.C) (hM : s'.M = s.M) (hV : ShOk s) (hV' : ShOk s') {l : List Stp} (hl : jobOk s.O s.C s.M l) : ∀ k, k ≤ l.length → dryK s.O s.C s.H l k ≤ dryK s.O s.C s'.H l k ∧ endK s.O s.C s.H l k ≤ endK s.O s.C s'.H l k
  | 0, _ => by simp [dryK, endK]
  | k + 1, hk => by
    have ih := (chain_sub h hO hC hM hV hV' hl k (by omega)).1
    have b := dryK_bd hV hl k (by omega)
    have hm := (hl.2 k (by omega)).2.1.2
    obtain ⟨x, hx, -⟩ := next_exists hV.1.1 hV.1.2.1 hV.1.2.2 hm hV.2.1.late b.1
    obtain ⟨x', hx', -⟩ := next_exists hV.1.1 hV.1.2.1 hV.1.2.2 hm hV'.2.1.late (show 0 ≤ dryK s.O s.C s'.H l k by omega)
    have := next_sub h ih hx hx'
    rw [dryK, dryK, endK, endK, nextV_eq hx, nextV_eq hx']
    omega
theorem chainV_sub {s s' : Sh} (h : HolSub s.H s'.H) (hO : s'.O = s.O) (hC : s'.C = s.C) (hM : s'.M = s.M) (hV : ShOk s) (hV' : ShOk s') {l : List Stp} (hl : jobOk s.O s.C s.M l) : chainV s l ≤ chainV s' l := by
  unfold chainV
  rw [hO, hC]
  exact (chain_sub h hO hC hM hV hV' hl _ (Nat.le_refl _)).2
theorem aftV_sub {s s' : Sh} (h : HolSub s.H s'.H) (hO : s'.O = s.O) (hC : s'.C = s.C) (hV : ShOk s) (hV' : ShOk s') (t : Int) (m : Nat) : aftV s.O s.C s.H t m ≤ aftV s'.O s'.C s'.H t m := by
  rw [hO, hC]
  obtain ⟨k, hk, -⟩ := aft_exists (O := s.O) (C := s.C) hV.2.1.asc hV.1.1 hV.1.2.1 hV.1.2.2 t m
  obtain ⟨k', hk', -⟩ := aft_exists (O := s.O) (C := s.C) hV'.2.1.asc hV.1.1 hV.1.2.1 hV.1.2.2 t m
  rw [aftV_eq hk, aftV_eq hk']
  exact aft_sub h hV.2.1.asc hV'.2.1.asc hV.1.1 hV.1.2.1 hV.1.2.2 hk hk'
theorem nextV_sub {s s' : Sh} (h : HolSub s.H s'.H) (hO : s'.O = s.O) (hC : s'.C = s.C) (hV : ShOk s) (hV' : ShOk s') {t m : Int} (t0 : 0 ≤ t) (m1 : m ≤ s.C - s.O) : nextV s.O s.C s.H t m ≤ nextV s'.O s'.C s'.H t m := by
  rw [hO, hC]
  obtain ⟨x, hx, -⟩ := next_exists hV.1.1 hV.1.2.1 hV.1.2.2 m1 hV.2.1.late t0
  obtain ⟨x', hx', -⟩ := next_exists hV.1.1 hV.1.2.1 hV.1.2.2 m1 hV'.2.1.late t0
  rw [nextV_eq hx, nextV_eq hx']
  exact next_sub h (Int.le_refl _) hx hx'
theorem loadV_sub {s s' : Sh} (h : HolSub s.H s'.H) (hO : s'.O = s.O) (hC : s'.C = s.C) (hJ : s'.J = s.J) (hV : ShOk s) (hV' : ShOk s') (m : Int) : loadV s m ≤ loadV s' m := by
  have hb := (ldJ_bd hV m _ (Nat.le_refl _)).1
  obtain ⟨n, hn⟩ : ∃ n : Nat, ldV s m = n := ⟨(ldV s m).toNat, by unfold ldV; omega⟩
  have hn' : ldV s' m = n := by unfold ldV; rw [hJ]; exact hn
  unfold loadV
  rw [hn, hn']
  exact aftV_sub h hO hC hV hV' 0 n
end Go.Proofs.Ytmdifgkalooaoaa
