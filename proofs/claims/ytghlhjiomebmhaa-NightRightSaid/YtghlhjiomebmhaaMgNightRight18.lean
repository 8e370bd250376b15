/-
  The symmetric merge, general, the middle in the left part. By an AI agent.; The symmetric merge, general, the middle in the right part. By an AI agent.; The symmetric merge. By an AI agent.; Insertion sort and stable sort of ints in place. By an AI agent.
-/
import Derived.Test.YtghlhjiomebmhaaMgNightRight17
import Derived.Deep.RegionHeld3
import Derived.BigRegion
import Derived.BigQuiet
import Derived.Deep.DeepCutAuto

namespace Go.Proofs.Ytghlhjiomebmhaa
set_option linter.unusedVariables false
set_option linter.unusedSimpArgs false
open Go.RowKit

set_option maxRecDepth 100000 in
set_option maxHeartbeats 16000000 in
theorem merge_c1 (lb : Array Value) (K : Int → Int) (Ok : Int → Prop) (g L cap : Nat) (w0 : World) (hC : CmpC lb K Ok g w0) (hL2 : L ≤ 100000) (a m b : Nat) (l : List Int) (w : World) (ham : a + 1 < m) (hmb : m + 1 < b) (hbL : b ≤ L) (hP : PlanR w g l) (hl : l.length = L) (hT : Two g g w0 w) (hO : ∀ i, i < L → Ok (gi l i)) (hLe : SrtS K l a m) (hR : SrtS K l m b) (hX : XLo l a m b) (D : Nat) (hD : b - a ≤ D + 1) (hM : MergeC lb K Ok g L cap w0 D) (d : Nat) (hd : ((a : Int) + b) / 2 = d) (hmd : d < m) :
    Calls Try.prog 73 #[.slice (some ⟨g, 0, none⟩) L cap, .int .i64 a, .int .i64 m, .int .i64 b, .func (.func 39) #[] lb] w fun e w' => SoE K g w L a b l e w' := by
  have d0 : ((m : Int) - a == 1) = false := by simp; omega
  have d1 : ((b : Int) - m == 1) = false := by simp; omega
  have HC : Hid (∀ x y W n, Ok x → Ok y → Two g g w W → Calls Try.prog 39 (#[.int .i64 x, .int .i64 y] ++ lb) (W.drewN n) fun e w' => e = .returned (.int .i64 (cmpK K x y)) ∧ ∃ m, w' = (W.drewN n).drewN m) := Lib.hid fun x y W n h1 h2 h3 => hC x y W n h1 h2 (hT.trans h3)
  have HMg : Hid (∀ (a m b : Nat) (l : List Int) (w1 : World), b - a ≤ D → a < m → m < b → b ≤ L → PlanR w1 g l → l.length = L → Two g g w w1 → (∀ i, i < L → Ok (gi l i)) → SrtS K l a m → SrtS K l m b → XLo l a m b → Calls Try.prog 73 #[.slice (some ⟨g, 0, none⟩) L cap, .int .i64 a, .int .i64 m, .int .i64 b, .func (.func 39) #[] lb] w1 fun e w' => SoE K g w1 L a b l e w') := Lib.hid fun a m b l w1 h1 h2 h3 h4 h5 h6 h7 h8 h9 h10 h11 => hM a m b l w1 h1 h2 h3 h4 h5 h6 (hT.trans h7) h8 h9 h10 h11
  have HRo : Hid (∀ (w1 : World) (s e : Nat), PlanR w1 g l → s < m → m < e → e ≤ L → Calls Try.prog 77 #[.slice (some ⟨g, 0, none⟩) L cap, .int .i64 s, .int .i64 m, .int .i64 e, .func (.func 39) #[] lb] w1 fun E w' => FnE g w1 L (rotF (gi l) s m e) E w') := Lib.hid fun w1 s e h1 h2 h3 h4 => rotate_r g L cap s m e _ l w1 h1 hl hL2 h2 h3 h4
  have HO := Lib.hid hO
  have HP0 := Lib.hid hP
  have HL := Lib.hid hl
  have HR := Lib.hid hR
  have HLe := Lib.hid hLe
  have HX := Lib.hid hX
  clear hC hO hP hl hR hLe hX hT hM
  obtain ⟨nn, hn⟩ : ∃ nn : Nat, (d : Int) + m = nn := ⟨d + m, by omega⟩
  obtain ⟨pp, hpp⟩ : ∃ pp : Nat, (nn : Int) - 1 = pp := ⟨nn - 1, by omega⟩
  obtain ⟨s0, hs0⟩ : ∃ s0 : Nat, (nn : Int) - b = s0 := ⟨nn - b, by omega⟩
  go_enter Try.func73, Try.ntmps73
  go_wp2_with fail
  go_loopw [20, 21] (fun vi vj wr => ∃ s r : Nat, s0 ≤ s ∧ s ≤ r ∧ r ≤ d ∧ vi = .int .i64 s ∧ vj = .int .i64 r ∧ Two g g w wr ∧ Hid (PlanR wr g l) ∧ Hid (s = s0 ∨ K (gi l (s - 1)) ≤ K (gi l (nn - s))) ∧ Hid (r = d ∨ K (gi l (nn - 1 - r)) < K (gi l r))) (fun vi vj _ => (intOf vj).toNat - (intOf vi).toNat)
  case atStart => exact ⟨s0, d, by omega, by omega, by omega, rfl, rfl, Two.refl _ _ _, HP0, Lib.hid (.inl rfl), Lib.hid (.inl rfl)⟩
  case round =>
    obtain ⟨s, r, h1, h2, h3, rfl, rfl, hb, HP, HA, HB⟩ := hrel
    by_cases hpq : s < r
    · obtain ⟨h, hh⟩ : ∃ h : Nat, ((s : Int) + r) / 2 = h := ⟨(s + r) / 2, by omega⟩
      have q1 : s ≤ h := by omega
      have q2 : h < r := by omega
      obtain ⟨u, hu⟩ : ∃ u : Nat, (pp : Int) - h = u := ⟨pp - h, by omega⟩
      have q3 : u < L := by omega
      have v1 := HP.out.1 u (by rw [HL.out]; omega)
      have v2 := HP.out.1 h (by rw [HL.out]; omega)
      have k7 : u < L := by omega
      have k8 : h < L := by omega
      have HCx := Lib.hid (fun n => HC.out (gi l u) (gi l h) wr n (HO.out u k7) (HO.out h k8) hb)
      have HD := Lib.hid (cmpK_neg K (gi l u) (gi l h))
      have HQ : Hid (K (gi l h) ≤ K (gi l u) → K (gi l (h + 1 - 1)) ≤ K (gi l (nn - (h + 1)))) := Lib.hid fun hx => by rw [show nn - (h + 1) = u by omega]; exact hx
      have HQ2 : Hid (K (gi l u) < K (gi l h) → K (gi l (nn - 1 - h)) < K (gi l h)) := Lib.hid fun hx => by rw [show nn - 1 - h = u by omega]; exact hx
      clear HC HO HR HLe HX HP0 HL HRo HMg
      generalize hgx : gi l h = x at *
      generalize hgy : gi l u = y at *
      generalize cmpK K y x = cv at *
      by_cases hx : K y < K x
      · have hd : decide (cv < 0) = true := by rw [HD.out]; exact decide_eq_true hx
        have HB2 : Hid (h = d ∨ K (gi l (nn - 1 - h)) < K (gi l h)) := Lib.hid (.inr (by rw [hgx]; exact HQ2.out hx))
        clear HQ HQ2 HD hx HB hgx hgy
        go_wp2_with fail
        go_quiet ((go_at_call 39; exact Calls.quiet_of (HCx.out _)))
        go_wp2_with fail
        go_roundw
        case rel => exact ⟨s, h, by omega, by omega, by omega, rfl, rfl, hb.drewN _, Lib.hid (HP.out.drewN _), HA, HB2⟩
        case measure => simp [intOf]; omega
      · have hd : decide (cv < 0) = false := by rw [HD.out]; exact decide_eq_false hx
        have HA2 : Hid (h + 1 = s0 ∨ K (gi l (h + 1 - 1)) ≤ K (gi l (nn - (h + 1)))) := Lib.hid (.inr (HQ.out (by omega)))
        clear HQ HQ2 HD hx HA hgx hgy
        go_wp2_with fail
        go_quiet ((go_at_call 39; exact Calls.quiet_of (HCx.out _)))
        go_wp2_with fail
        go_roundw
        case rel => exact ⟨h + 1, r, by omega, by omega, by omega, by go_num, rfl, hb.drewN _, Lib.hid (HP.out.drewN _), HA2, HB⟩
        case measure => simp [intOf]; omega
    · obtain rfl : s = r := by omega
      obtain ⟨e, he⟩ : ∃ e : Nat, (nn : Int) - s = e := ⟨nn - s, by omega⟩
      have g1 : a ≤ s := by omega
      have g2 : s ≤ m := by omega
      have g3 : s ≤ d := by omega
      have g4 : m ≤ e := by omega
      have g5 : e ≤ b := by omega
      have g6 : d ≤ e := by omega
      have HMid : Hid (∀ c : List Int, c.length = l.length → (∀ x, gi c x = rotF (gi l) s m e x) → Mid K l c a s d e b) := Lib.hid fun c hlc hc => by
        have e1 : d + m - s = e := by omega
        have := mid_of (K := K) (l := l) (c := c) (a := a) (m := m) (b := b) (d := d) (s := s) (by omega) (by omega) (by omega) HLe.out HR.out HX.out g1 g2 g3 (by omega) (by omega)
          (by
            rcases HA.out with h | h
            · first | (left; omega) | (right; left; omega)
            · by_cases c1 : s = a
              · left; exact c1
              by_cases c2 : e = b
              · right; left; omega
              right; right
              rw [show nn - s = d + m - s by omega] at h
              have := HX.out (s - 1) (d + m - s) (by omega) (by omega) (by omega) (by omega)
              unfold ltK; omega)
          (by
            rcases HB.out with h | h
            · first | (left; omega) | (right; left; omega)
            · right; right; rw [show d + m - s - 1 = nn - 1 - s by omega]; exact .inl h)
          hlc (by rw [e1]; exact hc)
        rw [e1] at this; exact this
      clear HC HR HLe HX HP0 HA HB
      have hwe : IntKind.i64.wrap (e : Int) = e := IntWalk.i64_in _ (by omega)
      go_upto_region 38 with (fail)
      iterate 8 (go_step; try go_simp)
      first
        | (refine ‹∀ (a : Act) (w : World), Code.wp Try.prog _ _ a w → _› _ _ ?_; exact merge_rest lb K Ok g L cap a m b d s e D l w wr (by omega) (by omega) hbL ⟨by omega, by omega, by omega, by omega⟩ hL2 g1 g2 g3 g4 g5 g6 HRo HMg HO HL HMid HP hb rfl)
        | (go_step; (try go_simp); refine ‹∀ (a : Act) (w : World), Code.wp Try.prog _ _ a w → _› _ _ ?_; exact merge_rest lb K Ok g L cap a m b d s e D l w wr (by omega) (by omega) hbL ⟨by omega, by omega, by omega, by omega⟩ hL2 g1 g2 g3 g4 g5 g6 HRo HMg HO HL HMid HP hb rfl)
        | (go_step; (try go_simp); go_step; (try go_simp); refine ‹∀ (a : Act) (w : World), Code.wp Try.prog _ _ a w → _› _ _ ?_; exact merge_rest lb K Ok g L cap a m b d s e D l w wr (by omega) (by omega) hbL ⟨by omega, by omega, by omega, by omega⟩ hL2 g1 g2 g3 g4 g5 g6 HRo HMg HO HL HMid HP hb rfl)
        | (go_step; (try go_simp); go_step; (try go_simp); go_step; (try go_simp); refine ‹∀ (a : Act) (w : World), Code.wp Try.prog _ _ a w → _› _ _ ?_; exact merge_rest lb K Ok g L cap a m b d s e D l w wr (by omega) (by omega) hbL ⟨by omega, by omega, by omega, by omega⟩ hL2 g1 g2 g3 g4 g5 g6 HRo HMg HO HL HMid HP hb rfl)
end Go.Proofs.Ytghlhjiomebmhaa

namespace Go.Proofs.Ytghlhjiomebmhaa
set_option linter.unusedVariables false
set_option linter.unusedSimpArgs false
open Go.RowKit

set_option maxRecDepth 100000 in
set_option maxHeartbeats 16000000 in
theorem merge_c2 (lb : Array Value) (K : Int → Int) (Ok : Int → Prop) (g L cap : Nat) (w0 : World) (hC : CmpC lb K Ok g w0) (hL2 : L ≤ 100000) (a m b : Nat) (l : List Int) (w : World) (ham : a + 1 < m) (hmb : m + 1 < b) (hbL : b ≤ L) (hP : PlanR w g l) (hl : l.length = L) (hT : Two g g w0 w) (hO : ∀ i, i < L → Ok (gi l i)) (hLe : SrtS K l a m) (hR : SrtS K l m b) (hX : XLo l a m b) (D : Nat) (hD : b - a ≤ D + 1) (hM : MergeC lb K Ok g L cap w0 D) (d : Nat) (hd : ((a : Int) + b) / 2 = d) (hmd : ¬ d < m) :
    Calls Try.prog 73 #[.slice (some ⟨g, 0, none⟩) L cap, .int .i64 a, .int .i64 m, .int .i64 b, .func (.func 39) #[] lb] w fun e w' => SoE K g w L a b l e w' := by
  have d0 : ((m : Int) - a == 1) = false := by simp; omega
  have d1 : ((b : Int) - m == 1) = false := by simp; omega
  have HC : Hid (∀ x y W n, Ok x → Ok y → Two g g w W → Calls Try.prog 39 (#[.int .i64 x, .int .i64 y] ++ lb) (W.drewN n) fun e w' => e = .returned (.int .i64 (cmpK K x y)) ∧ ∃ m, w' = (W.drewN n).drewN m) := Lib.hid fun x y W n h1 h2 h3 => hC x y W n h1 h2 (hT.trans h3)
  have HMg : Hid (∀ (a m b : Nat) (l : List Int) (w1 : World), b - a ≤ D → a < m → m < b → b ≤ L → PlanR w1 g l → l.length = L → Two g g w w1 → (∀ i, i < L → Ok (gi l i)) → SrtS K l a m → SrtS K l m b → XLo l a m b → Calls Try.prog 73 #[.slice (some ⟨g, 0, none⟩) L cap, .int .i64 a, .int .i64 m, .int .i64 b, .func (.func 39) #[] lb] w1 fun e w' => SoE K g w1 L a b l e w') := Lib.hid fun a m b l w1 h1 h2 h3 h4 h5 h6 h7 h8 h9 h10 h11 => hM a m b l w1 h1 h2 h3 h4 h5 h6 (hT.trans h7) h8 h9 h10 h11
  have HRo : Hid (∀ (w1 : World) (s e : Nat), PlanR w1 g l → s < m → m < e → e ≤ L → Calls Try.prog 77 #[.slice (some ⟨g, 0, none⟩) L cap, .int .i64 s, .int .i64 m, .int .i64 e, .func (.func 39) #[] lb] w1 fun E w' => FnE g w1 L (rotF (gi l) s m e) E w') := Lib.hid fun w1 s e h1 h2 h3 h4 => rotate_r g L cap s m e _ l w1 h1 hl hL2 h2 h3 h4
  have HO := Lib.hid hO
  have HP0 := Lib.hid hP
  have HL := Lib.hid hl
  have HR := Lib.hid hR
  have HLe := Lib.hid hLe
  have HX := Lib.hid hX
  clear hC hO hP hl hR hLe hX hT hM
  obtain ⟨nn, hn⟩ : ∃ nn : Nat, (d : Int) + m = nn := ⟨d + m, by omega⟩
  obtain ⟨pp, hpp⟩ : ∃ pp : Nat, (nn : Int) - 1 = pp := ⟨nn - 1, by omega⟩
  go_enter Try.func73, Try.ntmps73
  go_wp2_with fail
  go_loopw [20, 21] (fun vi vj wr => ∃ s r : Nat, a ≤ s ∧ s ≤ r ∧ r ≤ m ∧ vi = .int .i64 s ∧ vj = .int .i64 r ∧ Two g g w wr ∧ Hid (PlanR wr g l) ∧ Hid (s = a ∨ K (gi l (s - 1)) ≤ K (gi l (nn - s))) ∧ Hid (r = m ∨ K (gi l (nn - 1 - r)) < K (gi l r))) (fun vi vj _ => (intOf vj).toNat - (intOf vi).toNat)
  case atStart => exact ⟨a, m, by omega, by omega, by omega, rfl, rfl, Two.refl _ _ _, HP0, Lib.hid (.inl rfl), Lib.hid (.inl rfl)⟩
  case round =>
    obtain ⟨s, r, h1, h2, h3, rfl, rfl, hb, HP, HA, HB⟩ := hrel
    by_cases hpq : s < r
    · obtain ⟨h, hh⟩ : ∃ h : Nat, ((s : Int) + r) / 2 = h := ⟨(s + r) / 2, by omega⟩
      have q1 : s ≤ h := by omega
      have q2 : h < r := by omega
      obtain ⟨u, hu⟩ : ∃ u : Nat, (pp : Int) - h = u := ⟨pp - h, by omega⟩
      have q3 : u < L := by omega
      have v1 := HP.out.1 u (by rw [HL.out]; omega)
      have v2 := HP.out.1 h (by rw [HL.out]; omega)
      have k7 : u < L := by omega
      have k8 : h < L := by omega
      have HCx := Lib.hid (fun n => HC.out (gi l u) (gi l h) wr n (HO.out u k7) (HO.out h k8) hb)
      have HD := Lib.hid (cmpK_neg K (gi l u) (gi l h))
      have HQ : Hid (K (gi l h) ≤ K (gi l u) → K (gi l (h + 1 - 1)) ≤ K (gi l (nn - (h + 1)))) := Lib.hid fun hx => by rw [show nn - (h + 1) = u by omega]; exact hx
      have HQ2 : Hid (K (gi l u) < K (gi l h) → K (gi l (nn - 1 - h)) < K (gi l h)) := Lib.hid fun hx => by rw [show nn - 1 - h = u by omega]; exact hx
      clear HC HO HR HLe HX HP0 HL HRo HMg
      generalize hgx : gi l h = x at *
      generalize hgy : gi l u = y at *
      generalize cmpK K y x = cv at *
      by_cases hx : K y < K x
      · have hd : decide (cv < 0) = true := by rw [HD.out]; exact decide_eq_true hx
        have HB2 : Hid (h = m ∨ K (gi l (nn - 1 - h)) < K (gi l h)) := Lib.hid (.inr (by rw [hgx]; exact HQ2.out hx))
        clear HQ HQ2 HD hx HB hgx hgy
        go_wp2_with fail
        go_quiet ((go_at_call 39; exact Calls.quiet_of (HCx.out _)))
        go_wp2_with fail
        go_roundw
        case rel => exact ⟨s, h, by omega, by omega, by omega, rfl, rfl, hb.drewN _, Lib.hid (HP.out.drewN _), HA, HB2⟩
        case measure => simp [intOf]; omega
      · have hd : decide (cv < 0) = false := by rw [HD.out]; exact decide_eq_false hx
        have HA2 : Hid (h + 1 = a ∨ K (gi l (h + 1 - 1)) ≤ K (gi l (nn - (h + 1)))) := Lib.hid (.inr (HQ.out (by omega)))
        clear HQ HQ2 HD hx HA hgx hgy
        go_wp2_with fail
        go_quiet ((go_at_call 39; exact Calls.quiet_of (HCx.out _)))
        go_wp2_with fail
        go_roundw
        case rel => exact ⟨h + 1, r, by omega, by omega, by omega, by go_num, rfl, hb.drewN _, Lib.hid (HP.out.drewN _), HA2, HB⟩
        case measure => simp [intOf]; omega
    · obtain rfl : s = r := by omega
      obtain ⟨e, he⟩ : ∃ e : Nat, (nn : Int) - s = e := ⟨nn - s, by omega⟩
      have g1 : a ≤ s := by omega
      have g2 : s ≤ m := by omega
      have g3 : s ≤ d := by omega
      have g4 : m ≤ e := by omega
      have g5 : e ≤ b := by omega
      have g6 : d ≤ e := by omega
      have HMid : Hid (∀ c : List Int, c.length = l.length → (∀ x, gi c x = rotF (gi l) s m e x) → Mid K l c a s d e b) := Lib.hid fun c hlc hc => by
        have e1 : d + m - s = e := by omega
        have := mid_of (K := K) (l := l) (c := c) (a := a) (m := m) (b := b) (d := d) (s := s) (by omega) (by omega) (by omega) HLe.out HR.out HX.out g1 g2 g3 (by omega) (by omega)
          (by
            rcases HA.out with h | h
            · first | (left; omega) | (right; left; omega)
            · by_cases c1 : s = a
              · left; exact c1
              by_cases c2 : e = b
              · right; left; omega
              right; right
              rw [show nn - s = d + m - s by omega] at h
              have := HX.out (s - 1) (d + m - s) (by omega) (by omega) (by omega) (by omega)
              unfold ltK; omega)
          (by
            rcases HB.out with h | h
            · first | (left; omega) | (right; left; omega)
            · right; right; rw [show d + m - s - 1 = nn - 1 - s by omega]; exact .inl h)
          hlc (by rw [e1]; exact hc)
        rw [e1] at this; exact this
      clear HC HR HLe HX HP0 HA HB
      have hwe : IntKind.i64.wrap (e : Int) = e := IntWalk.i64_in _ (by omega)
      go_upto_region 38 with (fail)
      iterate 8 (go_step; try go_simp)
      first
        | (refine ‹∀ (a : Act) (w : World), Code.wp Try.prog _ _ a w → _› _ _ ?_; exact merge_rest lb K Ok g L cap a m b d s e D l w wr (by omega) (by omega) hbL ⟨by omega, by omega, by omega, by omega⟩ hL2 g1 g2 g3 g4 g5 g6 HRo HMg HO HL HMid HP hb rfl)
        | (go_step; (try go_simp); refine ‹∀ (a : Act) (w : World), Code.wp Try.prog _ _ a w → _› _ _ ?_; exact merge_rest lb K Ok g L cap a m b d s e D l w wr (by omega) (by omega) hbL ⟨by omega, by omega, by omega, by omega⟩ hL2 g1 g2 g3 g4 g5 g6 HRo HMg HO HL HMid HP hb rfl)
        | (go_step; (try go_simp); go_step; (try go_simp); refine ‹∀ (a : Act) (w : World), Code.wp Try.prog _ _ a w → _› _ _ ?_; exact merge_rest lb K Ok g L cap a m b d s e D l w wr (by omega) (by omega) hbL ⟨by omega, by omega, by omega, by omega⟩ hL2 g1 g2 g3 g4 g5 g6 HRo HMg HO HL HMid HP hb rfl)
        | (go_step; (try go_simp); go_step; (try go_simp); go_step; (try go_simp); refine ‹∀ (a : Act) (w : World), Code.wp Try.prog _ _ a w → _› _ _ ?_; exact merge_rest lb K Ok g L cap a m b d s e D l w wr (by omega) (by omega) hbL ⟨by omega, by omega, by omega, by omega⟩ hL2 g1 g2 g3 g4 g5 g6 HRo HMg HO HL HMid HP hb rfl)
end Go.Proofs.Ytghlhjiomebmhaa

namespace Go.Proofs.Ytghlhjiomebmhaa
set_option linter.unusedVariables false
set_option linter.unusedSimpArgs false
open Go.RowKit

theorem merge_c (lb : Array Value) (K : Int → Int) (Ok : Int → Prop) (g L cap : Nat) (w0 : World) (hC : CmpC lb K Ok g w0) (hL2 : L ≤ 100000) (a m b : Nat) (l : List Int) (w : World) (ham : a + 1 < m) (hmb : m + 1 < b) (hbL : b ≤ L) (hP : PlanR w g l) (hl : l.length = L) (hT : Two g g w0 w) (hO : ∀ i, i < L → Ok (gi l i)) (hLe : SrtS K l a m) (hR : SrtS K l m b) (hX : XLo l a m b) (D : Nat) (hD : b - a ≤ D + 1) (hM : MergeC lb K Ok g L cap w0 D) :
    Calls Try.prog 73 #[.slice (some ⟨g, 0, none⟩) L cap, .int .i64 a, .int .i64 m, .int .i64 b, .func (.func 39) #[] lb] w fun e w' => SoE K g w L a b l e w' := by
  obtain ⟨d, hd⟩ : ∃ d : Nat, ((a : Int) + b) / 2 = d := ⟨(a + b) / 2, by omega⟩
  by_cases hmd : d < m
  · exact merge_c1 lb K Ok g L cap w0 hC hL2 a m b l w ham hmb hbL hP hl hT hO hLe hR hX D hD hM d hd hmd
  · exact merge_c2 lb K Ok g L cap w0 hC hL2 a m b l w ham hmb hbL hP hl hT hO hLe hR hX D hD hM d hd hmd
theorem merge_all (lb : Array Value) (K : Int → Int) (Ok : Int → Prop) (g L cap : Nat) (w0 : World) (hC : CmpC lb K Ok g w0) (hL2 : L ≤ 100000) : ∀ d, MergeC lb K Ok g L cap w0 d
  | 0 => fun a m b l w h1 h2 h3 => by omega
  | d + 1 => fun a m b l w h1 h2 h3 h4 h5 h6 h7 h8 h9 h10 h11 => by
    by_cases c1 : m = a + 1
    · exact merge_a lb K Ok g L cap w0 hC hL2 a m b l w c1 h3 h4 h5 h6 h7 h8 h10 h11
    · by_cases c2 : b = m + 1
      · exact merge_b lb K Ok g L cap w0 hC hL2 a m b l w c2 (by omega) h4 h5 h6 h7 h8 h9 h11
      · exact merge_c lb K Ok g L cap w0 hC hL2 a m b l w (by omega) (by omega) h4 h5 h6 h7 h8 h9 h10 h11 d (by omega) (merge_all lb K Ok g L cap w0 hC hL2 d)
end Go.Proofs.Ytghlhjiomebmhaa

namespace Go.Proofs.Ytghlhjiomebmhaa
set_option linter.unusedVariables false
set_option linter.unusedSimpArgs false
open Go.RowKit

/-- The numbers from a to b ascend. -/
def AscS (l : List Int) (a b : Nat) : Prop := ∀ x y, a ≤ x → x < y → y < b → gi l x < gi l y
set_option maxRecDepth 100000 in
theorem insert_none (lb : Array Value) (K : Int → Int) (Ok : Int → Prop) (g L cap : Nat) (w0 : World) (hC : CmpC lb K Ok g w0) (hL2 : L ≤ 100000) (a b : Nat) (l : List Int) (w : World) (hab : b ≤ a + 1) (hbL : b ≤ L) (haL : a ≤ L) (hP : PlanR w g l) (hl : l.length = L) (hT : Two g g w0 w) (hO : ∀ i, i < L → Ok (gi l i)) :
    Calls Try.prog 72 #[.slice (some ⟨g, 0, none⟩) L cap, .int .i64 a, .int .i64 b, .func (.func 39) #[] lb] w fun e w' => SoE K g w L a b l e w' := by
  have HP := Lib.hid hP
  have HL := Lib.hid hl
  have hlt : ¬ ((a : Int) + 1 < b) := by omega
  clear hC hO hP hl hT
  go_enter Try.func72, Try.ntmps72
  go_wp2
  refine wp_loop_rounds 1 ?_
  rw [rounds_succ]
  go_wp2
  go_end0
  exact ⟨l, ⟨rfl, HP.out, Two.refl _ _ _⟩, HL.out, Seg.refl _ _ _, fun i j h1 h2 h3 => by omega⟩
set_option maxRecDepth 100000 in
set_option maxHeartbeats 8000000 in
theorem insert_r (lb : Array Value) (K : Int → Int) (Ok : Int → Prop) (g L cap : Nat) (w0 : World) (hC : CmpC lb K Ok g w0) (hL2 : L ≤ 100000) (a b : Nat) (l : List Int) (w : World) (hab : a + 1 < b) (hbL : b ≤ L) (hP : PlanR w g l) (hl : l.length = L) (hT : Two g g w0 w) (hO : ∀ i, i < L → Ok (gi l i)) (hA : AscS l a b) :
    Calls Try.prog 72 #[.slice (some ⟨g, 0, none⟩) L cap, .int .i64 a, .int .i64 b, .func (.func 39) #[] lb] w fun e w' => SoE K g w L a b l e w' := by
  have HC : Hid (∀ x y W n, Ok x → Ok y → Two g g w W → Calls Try.prog 39 (#[.int .i64 x, .int .i64 y] ++ lb) (W.drewN n) fun e w' => e = .returned (.int .i64 (cmpK K x y)) ∧ ∃ m, w' = (W.drewN n).drewN m) := Lib.hid fun x y W n h1 h2 h3 => hC x y W n h1 h2 (hT.trans h3)
  have HO := Lib.hid hO
  have HP0 := Lib.hid hP
  have HL0 := Lib.hid hl
  have HAs := Lib.hid hA
  clear hC hO hP hl hT hA
  go_enter Try.func72, Try.ntmps72
  go_wp2_with fail
  go_loopw [8] (fun vi wr => ∃ i : Nat, a + 1 ≤ i ∧ i ≤ b ∧ vi = .int .i64 i ∧ Two g g w wr ∧ Hid (∃ c, PlanR wr g c ∧ Seg a i l c ∧ SrtS K c a i)) (fun vi _ => b - (intOf vi).toNat)
  case atStart => exact ⟨a + 1, by omega, by omega, by go_num, Two.refl _ _ _, Lib.hid ⟨l, HP0.out, Seg.refl _ _ _, fun i j h1 h2 h3 => by omega⟩⟩
  case round =>
    obtain ⟨i, h1, h2, rfl, hb, HK⟩ := hrel
    by_cases hib : i < b
    · obtain ⟨c, c1, c2, c3⟩ := HK.out
      have HOc : Hid (∀ x, x < L → Ok (gi c x)) := Lib.hid fun x hx => by
        by_cases hh : a ≤ x ∧ x < i
        · obtain ⟨y, y1, y2, y3⟩ := c2.to x hh.1 hh.2
          rw [y3]; exact HO.out y (by omega)
        · rw [c2.out x hh]; exact HO.out x hx
      have HX : Hid (∀ x, a ≤ x → x < i → gi c x < gi c i) := Lib.hid fun x x1 x2 => by
        obtain ⟨y, y1, y2, y3⟩ := c2.to x x1 x2
        rw [y3, c2.out i (by omega)]; exact HAs.out y i y1 y2 hib
      have hcl : c.length = L := c2.len.trans HL0.out
      have HE : Hid (∀ (j : Nat) (c' : List Int), a ≤ j → j ≤ i → (j = a ∨ K (gi c (j - 1)) ≤ K (gi c i)) → (j = i ∨ K (gi c i) < K (gi c j)) → c'.length = L → (∀ x, gi c' x = if j < x ∧ x ≤ i then gi c (x - 1) else if x = j then gi c i else gi c x) → Seg a (i + 1) l c' ∧ SrtS K c' a (i + 1)) := Lib.hid fun j c' j1 j2 j3 j4 j5 j6 => by
        obtain ⟨t1, t2⟩ := dn_done j1 j2 c3 HX.out (j3.imp id (fun h => by omega)) j4 (by rw [hcl]; exact j5) j6
        exact ⟨(c2.widen (Nat.le_refl _) (by omega)).trans t1, t2⟩
      have HC1 := Lib.hid c1
      have HL := Lib.hid hcl
      clear HK c1 c2 c3 HO HX HAs HP0 HL0 hcl
      go_wp2_with fail
      obtain ⟨wo, rfl⟩ : ∃ wo : World, wo = wr := ⟨_, rfl⟩
      go_loopw [9] (fun vj wr => ∃ j : Nat, a ≤ j ∧ j ≤ i ∧ vj = .int .i64 j ∧ Two g g w wr ∧ Hid (j = i ∨ K (gi c i) < K (gi c j)) ∧ Hid (∃ c', PlanR wr g c' ∧ c'.length = L ∧ ∀ x, gi c' x = if j < x ∧ x ≤ i then gi c (x - 1) else if x = j then gi c i else gi c x)) (fun vj _ => (intOf vj).toNat)
      case atStart => exact ⟨i, by omega, by omega, rfl, hb, Lib.hid (.inl rfl), Lib.hid ⟨c, HC1.out, HL.out, fun x => by
        rw [if_neg (by omega)]
        by_cases e : x = i
        · rw [if_pos e, e]
        · rw [if_neg e]⟩⟩
      case round =>
        obtain ⟨j, j1, j2, rfl, hb, HJ, HK⟩ := hrel
        obtain ⟨c', k1, k2, k3⟩ := HK.out
        by_cases hja : a < j
        · have dg : decide ((a : Int) < j) = true := decide_eq_true (by omega)
          obtain ⟨u, hu⟩ : ∃ u : Nat, (j : Int) - 1 = u := ⟨j - 1, by omega⟩
          have v1 := k1.1 j (by omega)
          have v2 := k1.1 u (by omega)
          have l1 : j < L := by omega
          have l2 : u < L := by omega
          have e1 : gi c' j = gi c i := by rw [k3, if_neg (by omega), if_pos rfl]
          have e2 : gi c' u = gi c (j - 1) := by rw [k3, if_neg (by omega), if_neg (by omega)]; congr 1; omega
          have HCx := Lib.hid (fun n => HC.out (gi c' j) (gi c' u) wr n (by rw [e1]; exact HOc.out i (by omega)) (by rw [e2]; exact HOc.out (j - 1) (by omega)) hb)
          have HD := Lib.hid (cmpK_neg K (gi c' j) (gi c' u))
          by_cases hx : K (gi c i) < K (gi c (j - 1))
          · have HS1 := Lib.hid (k1.swap1 (i := j) (j := u) (by omega) (by omega))
            have HS2 := Lib.hid (k1.swap2 (i := j) (j := u) (by omega) (by omega) (by omega))
            have HN : Hid ((swpL c' j u).length = L ∧ ∀ x, gi (swpL c' j u) x = if u < x ∧ x ≤ i then gi c (x - 1) else if x = u then gi c i else gi c x) := Lib.hid ⟨by rw [swpL_len]; exact k2, fun x => by
              rw [gi_swpL (by omega) (by omega) (by omega), k3, k3, k3]
              repeat' split
              all_goals first | (exfalso; omega) | (congr 1; omega) | rfl⟩
            have HJ2 : Hid (u = i ∨ K (gi c i) < K (gi c u)) := Lib.hid (.inr (by rw [show u = j - 1 by omega]; exact hx))
            have f1 := k1.2 j (by omega)
            have f2 := k1.2 u (by omega)
            have k5 : u ≠ j := by omega
            have k6 : j ≠ u := by omega
            have k7 : u < j := by omega
            have hd : decide (cmpK K (gi c' j) (gi c' u) < 0) = true := by rw [HD.out, e1, e2]; exact decide_eq_true hx
            clear HK k1 k2 k3 HE HD e1 e2 hx HJ HC HOc HC1
            generalize swpL c' j u = c2 at *
            generalize gi c' j = x at *
            generalize gi c' u = y at *
            generalize cmpK K x y = cv at *
            go_wp2_with fail
            go_quiet ((go_at_call 39; exact Calls.quiet_of (HCx.out _)))
            go_wp2_with fail
            go_region
            all_goals
              go_wp2_with fail
              go_roundw
              case rel => exact ⟨u, by omega, by omega, by go_num, by first | exact ((hb.drewN _).trans (Two.set _ _ _)).trans (Two.set _ _ _) | exact (((hb.drewN _).drew).trans (Two.set _ _ _)).trans (Two.set _ _ _), HJ2, Lib.hid ⟨c2, by first | exact HS1.out | exact HS2.out, HN.out⟩⟩
              case measure => simp [intOf]; omega
          · have hd : decide (cmpK K (gi c' j) (gi c' u) < 0) = false := by rw [HD.out, e1, e2]; exact decide_eq_false hx
            obtain ⟨t1, t2⟩ := HE.out j c' j1 j2 (.inr (by omega)) HJ.out k2 k3
            have HG : ∀ n, Hid (∃ c, PlanR (wr.drewN n) g c ∧ Seg a (i + 1) l c ∧ SrtS K c a (i + 1)) := fun n => Lib.hid ⟨c', k1.drewN n, t1, t2⟩
            clear HK k1 k2 k3 HE HD e1 e2 hx HJ HC HOc HC1 t1 t2
            generalize gi c' j = x at *
            generalize gi c' u = y at *
            generalize cmpK K x y = cv at *
            go_wp2_with fail
            go_quiet ((go_at_call 39; exact Calls.quiet_of (HCx.out _)))
            go_wp2_with fail
            go_roundw
            case rel => exact ⟨i + 1, by omega, by omega, by go_num, hb.drewN _, HG _⟩
            case measure => simp [intOf]; omega
        · obtain rfl : a = j := by omega
          have dg : decide ((a : Int) < a) = false := decide_eq_false (by omega)
          obtain ⟨t1, t2⟩ := HE.out a c' j1 j2 (.inl rfl) HJ.out k2 k3
          have HG : ∀ n, Hid (∃ c, PlanR (wr.drewN n) g c ∧ Seg a (i + 1) l c ∧ SrtS K c a (i + 1)) := fun n => Lib.hid ⟨c', k1.drewN n, t1, t2⟩
          clear HK k1 k2 k3 HE HJ HC HOc HC1 t1 t2
          go_wp2_with fail
          go_quiet (fail)
          go_wp2_with fail
          go_roundw
          case rel => exact ⟨i + 1, by omega, by omega, by go_num, hb.drewN _, HG _⟩
          case measure => simp [intOf]; omega
    · obtain rfl : i = b := by omega
      obtain ⟨c, c1, c2, c3⟩ := HK.out
      have HF : Hid (SoE K g w L a i l (.returned (.tuple #[])) wr) := Lib.hid ⟨c, ⟨rfl, c1, hb⟩, c2.len.trans HL0.out, c2, c3⟩
      clear HK c1 c2 c3 HO HAs HP0 HL0 HC
      go_wp2_with fail
      go_end0
      exact HF.out
theorem insert_any (lb : Array Value) (K : Int → Int) (Ok : Int → Prop) (g L cap : Nat) (w0 : World) (hC : CmpC lb K Ok g w0) (hL2 : L ≤ 100000) (a b : Nat) (l : List Int) (w : World) (haL : a ≤ L) (hbL : b ≤ L) (hP : PlanR w g l) (hl : l.length = L) (hT : Two g g w0 w) (hO : ∀ i, i < L → Ok (gi l i)) (hA : AscS l a b) :
    Calls Try.prog 72 #[.slice (some ⟨g, 0, none⟩) L cap, .int .i64 a, .int .i64 b, .func (.func 39) #[] lb] w fun e w' => SoE K g w L a b l e w' := by
  by_cases h : a + 1 < b
  · exact insert_r lb K Ok g L cap w0 hC hL2 a b l w h hbL hP hl hT hO hA
  · exact insert_none lb K Ok g L cap w0 hC hL2 a b l w (by omega) hbL haL hP hl hT hO
set_option maxRecDepth 100000 in
set_option maxHeartbeats 4000000 in
theorem stable_a (lb : Array Value) (K : Int → Int) (Ok : Int → Prop) (g L cap : Nat) (l : List Int) (w : World) (hC : CmpC lb K Ok g w) (h20 : L < 20) (hP : PlanR w g l) (hl : l.length = L) (hO : ∀ i, i < L → Ok (gi l i)) (hA : AscS l 0 L) :
    Calls Try.prog 60 #[.slice (some ⟨g, 0, none⟩) L cap, .int .i64 L, .func (.func 39) #[] lb] w fun e w' => SoE K g w L 0 L l e w' := by
  have H1 := Lib.hid (insert_any lb K Ok g L cap w hC (by omega) 0 L l w (by omega) (Nat.le_refl _) hP hl (Two.refl _ _ _) hO hA)
  clear hC hP hl hO hA
  go_enter Try.func60, Try.ntmps60
  go_wp2_with fail
  refine wp_loop_rounds 1 ?_
  rw [rounds_succ]
  go_wp2_with fail
  refine H1.out.mono ?_
  rintro e w1 ⟨c, ⟨rfl, hP1, hT1⟩, hl1, hg1, hs1⟩
  have HF : Hid (SoE K g w L 0 L l (.returned (.tuple #[])) w1) := Lib.hid ⟨c, ⟨rfl, hP1, hT1⟩, hl1, hg1, hs1⟩
  clear H1 hP1 hT1 hl1 hg1 hs1
  go_wp2_with fail
  refine wp_loop_rounds 1 ?_
  rw [rounds_succ]
  go_wp2_with fail
  go_end0
  exact HF.out
set_option maxRecDepth 100000 in
set_option maxHeartbeats 8000000 in
theorem stable_b (lb : Array Value) (K : Int → Int) (Ok : Int → Prop) (g L cap : Nat) (l : List Int) (w : World) (hC : CmpC lb K Ok g w) (h20 : 20 < L) (h40 : L < 40) (hP : PlanR w g l) (hl : l.length = L) (hO : ∀ i, i < L → Ok (gi l i)) (hA : AscS l 0 L) :
    Calls Try.prog 60 #[.slice (some ⟨g, 0, none⟩) L cap, .int .i64 L, .func (.func 39) #[] lb] w fun e w' => SoE K g w L 0 L l e w' := by
  have H1 := Lib.hid (insert_any lb K Ok g L cap w hC (by omega) 0 20 l w (by omega) (by omega) hP hl (Two.refl _ _ _) hO (fun x y h1 h2 h3 => hA x y h1 h2 (by omega)))
  have H2 : Hid (∀ W c, PlanR W g c → c.length = L → Two g g w W → Seg 0 20 l c → Calls Try.prog 72 #[.slice (some ⟨g, 0, none⟩) L cap, .int .i64 20, .int .i64 L, .func (.func 39) #[] lb] W fun e w' => SoE K g W L 20 L c e w') := Lib.hid fun W c h1 h2 h3 h4 => insert_any lb K Ok g L cap w hC (by omega) 20 L c W (by omega) (Nat.le_refl _) h1 h2 h3 (fun i hi => by
    by_cases hh : 0 ≤ i ∧ i < 20
    · obtain ⟨y, y1, y2, y3⟩ := h4.to i hh.1 hh.2
      rw [y3]; exact hO y (by omega)
    · rw [h4.out i hh]; exact hO i hi) (fun x y q1 q2 q3 => by rw [h4.out x (by omega), h4.out y (by omega)]; exact hA x y (by omega) q2 q3)
  have H3 : Hid (∀ W c c2, PlanR W g c2 → c2.length = L → Two g g w W → Seg 0 20 l c → SrtS K c 0 20 → Seg 20 L c c2 → SrtS K c2 20 L → Calls Try.prog 73 #[.slice (some ⟨g, 0, none⟩) L cap, .int .i64 0, .int .i64 20, .int .i64 L, .func (.func 39) #[] lb] W fun e w' => SoE K g W L 0 L c2 e w') := Lib.hid fun W c c2 h1 h2 h3 h4 h5 h6 h7 => by
    have hin : ∀ i, i < L → ∃ y, y < L ∧ gi c2 i = gi l y ∧ (i < 20 → y < 20) ∧ (20 ≤ i → 20 ≤ y) := fun i hi => by
      by_cases hh : i < 20
      · obtain ⟨y, y1, y2, y3⟩ := h4.to i (by omega) hh
        exact ⟨y, by omega, by rw [h6.out i (by omega)]; exact y3, fun _ => y2, fun h => by omega⟩
      · obtain ⟨y, y1, y2, y3⟩ := h6.to i (by omega) hi
        exact ⟨y, y2, by rw [y3, h4.out y (by omega)], fun h => by omega, fun _ => y1⟩
    exact merge_all lb K Ok g L cap w hC (by omega) L 0 20 L c2 W (by omega) (by omega) h20 (Nat.le_refl _) h1 h2 h3 (fun i hi => by
      obtain ⟨y, y1, y2, _⟩ := hin i hi
      rw [y2]; exact hO y y1) (fun i j i1 i2 i3 => by rw [h6.out i (by omega), h6.out j (by omega)]; exact h5 i j i1 i2 i3) h7 (fun i j i1 i2 i3 i4 => by
      obtain ⟨y, y1, y2, y3, _⟩ := hin i (by omega)
      obtain ⟨z, z1, z2, _, z4⟩ := hin j (by omega)
      have := y3 (by omega)
      have := z4 (by omega)
      rw [y2, z2]; exact hA y z (by omega) (by omega) z1)
  clear hC hP hl hO hA
  go_enter Try.func60, Try.ntmps60
  go_wp2_with fail
  refine wp_loop_rounds 2 ?_
  rw [rounds_succ]
  go_wp2_with fail
  refine H1.out.mono ?_
  rintro e w1 ⟨c, ⟨rfl, hP1, hT1⟩, hl1, hg1, hs1⟩
  have HG1 := Lib.hid hg1
  have HS1 := Lib.hid hs1
  have H2x := Lib.hid (H2.out w1 c hP1 hl1 hT1 hg1)
  have HL1 := Lib.hid hl1
  clear H1 H2 hP1 hl1 hg1 hs1
  go_wp2_with fail
  rw [rounds_succ]
  go_wp2_with fail
  refine H2x.out.mono ?_
  rintro e w2 ⟨c2, ⟨rfl, hP2, hT2⟩, hl2, hg2, hs2⟩
  have hT := hT1.trans hT2
  have H3x := Lib.hid (H3.out w2 c c2 hP2 hl2 hT HG1.out HS1.out hg2 hs2)
  have HG2 : Hid (Seg 0 L l c2) := Lib.hid ((HG1.out.widen (Nat.le_refl _) (by omega)).trans (hg2.widen (by omega) (Nat.le_refl _)))
  clear H3 H2x hP2 hl2 hg2 hs2 HG1 HS1 hT1 hT2
  go_wp2_with fail
  refine wp_loop_rounds 2 ?_
  rw [rounds_succ]
  go_wp2_with fail
  refine wp_loop_rounds 1 ?_
  rw [rounds_succ]
  go_wp2_with fail
  refine H3x.out.mono ?_
  rintro e w3 ⟨c3, ⟨rfl, hP3, hT3⟩, hl3, hg3, hs3⟩
  have HF : Hid (SoE K g w L 0 L l (.returned (.tuple #[])) w3) := Lib.hid ⟨c3, ⟨rfl, hP3, hT.trans hT3⟩, hl3, HG2.out.trans hg3, hs3⟩
  clear H3x hP3 hT3 hl3 hg3 hs3 HG2
  go_wp2_with fail
  rw [rounds_succ]
  go_wp2_with fail
  go_end0
  exact HF.out
set_option maxRecDepth 100000 in
set_option maxHeartbeats 4000000 in
theorem stable_c (lb : Array Value) (K : Int → Int) (Ok : Int → Prop) (g L cap : Nat) (l : List Int) (w : World) (hC : CmpC lb K Ok g w) (h20 : L = 20) (hP : PlanR w g l) (hl : l.length = L) (hO : ∀ i, i < L → Ok (gi l i)) (hA : AscS l 0 L) :
    Calls Try.prog 60 #[.slice (some ⟨g, 0, none⟩) L cap, .int .i64 L, .func (.func 39) #[] lb] w fun e w' => SoE K g w L 0 L l e w' := by
  have H1 := Lib.hid (insert_any lb K Ok g L cap w hC (by omega) 0 20 l w (by omega) (by omega) hP hl (Two.refl _ _ _) hO (fun x y h1 h2 h3 => hA x y h1 h2 (by omega)))
  have H2 : Hid (∀ W c, PlanR W g c → c.length = L → Two g g w W → (∀ i, i < L → Ok (gi c i)) → Calls Try.prog 72 #[.slice (some ⟨g, 0, none⟩) L cap, .int .i64 20, .int .i64 (20 : Nat), .func (.func 39) #[] lb] W fun e w' => SoE K g W L 20 20 c e w') := Lib.hid fun W c h1 h2 h3 h4 => insert_any lb K Ok g L cap w hC (by omega) 20 20 c W (by omega) (by omega) h1 h2 h3 h4 (fun x y q1 q2 q3 => by omega)
  have HO := Lib.hid hO
  clear hC hP hl hO hA
  subst h20
  go_enter Try.func60, Try.ntmps60
  go_wp2_with fail
  refine wp_loop_rounds 2 ?_
  rw [rounds_succ]
  go_wp2_with fail
  refine H1.out.mono ?_
  rintro e w1 ⟨c, ⟨rfl, hP1, hT1⟩, hl1, hg1, hs1⟩
  have H2x := Lib.hid (H2.out w1 c hP1 hl1 hT1 (fun i hi => by
    obtain ⟨y, y1, y2, y3⟩ := hg1.to i (by omega) hi
    rw [y3]; exact HO.out y y2))
  have HG1 := Lib.hid hg1
  have HS1 := Lib.hid hs1
  clear H1 H2 hP1 hl1 hg1 hs1
  go_wp2_with fail
  rw [rounds_succ]
  go_wp2_with fail
  refine H2x.out.mono ?_
  rintro e w2 ⟨c2, ⟨rfl, hP2, hT2⟩, hl2, hg2, hs2⟩
  have HF : Hid (SoE K g w 20 0 20 l (.returned (.tuple #[])) w2) := Lib.hid ⟨c2, ⟨rfl, hP2, hT1.trans hT2⟩, hl2, HG1.out.trans (hg2.widen (by omega) (Nat.le_refl _)), fun i j i1 i2 i3 => by rw [hg2.out i (by omega), hg2.out j (by omega)]; exact HS1.out i j i1 i2 i3⟩
  clear H2x hP2 hT2 hl2 hg2 hs2 HG1 HS1 hT1
  go_wp2_with fail
  refine wp_loop_rounds 1 ?_
  rw [rounds_succ]
  go_wp2_with fail
  go_end0
  exact HF.out
set_option maxRecDepth 100000 in
theorem sortStable_r (lb : Array Value) (K : Int → Int) (Ok : Int → Prop) (g L cap : Nat) (l : List Int) (w : World) (hC : CmpC lb K Ok g w) (h40 : L < 40) (hP : PlanR w g l) (hl : l.length = L) (hO : ∀ i, i < L → Ok (gi l i)) (hA : AscS l 0 L) :
    Calls Try.prog 38 #[.slice (some ⟨g, 0, none⟩) L cap, .func (.func 39) #[] lb] w fun e w' => SoE K g w L 0 L l e w' := by
  have H : Hid (Calls Try.prog 60 #[.slice (some ⟨g, 0, none⟩) L cap, .int .i64 L, .func (.func 39) #[] lb] w fun e w' => SoE K g w L 0 L l e w') := Lib.hid (by
    rcases Nat.lt_trichotomy L 20 with h | h | h
    · exact stable_a lb K Ok g L cap l w hC h hP hl hO hA
    · exact stable_c lb K Ok g L cap l w hC h hP hl hO hA
    · exact stable_b lb K Ok g L cap l w hC h h40 hP hl hO hA)
  clear hC hP hl hO hA
  go_enter Try.func38, Try.ntmps38
  go_wp2_with fail
  refine H.out.mono ?_
  rintro e w1 ⟨c, ⟨rfl, hP1, hT1⟩, hl1, hg1, hs1⟩
  have HF : Hid (SoE K g w L 0 L l (.returned (.tuple #[])) w1) := Lib.hid ⟨c, ⟨rfl, hP1, hT1⟩, hl1, hg1, hs1⟩
  clear H hP1 hT1 hl1 hg1 hs1
  go_wp2_with fail
  go_end0
  exact HF.out
end Go.Proofs.Ytghlhjiomebmhaa
