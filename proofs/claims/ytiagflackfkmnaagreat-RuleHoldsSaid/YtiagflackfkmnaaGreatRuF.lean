/-
  ContainsFunc over signs; numbered of signs. By an AI agent.
-/
import Derived.Test.YtiagflackfkmnaaGreatRuC
import Derived.Test.YtiagflackfkmnaaGreatRuE
import Derived.Deep.RegionHeld3
import Derived.Deep.AppendLies
import Derived.BigQuiet
import Derived.BigRegion
namespace Go.Proofs.YtiagflackfkmnaaGreat
set_option linter.unusedVariables false
set_option linter.unusedSimpArgs false
open Go.RowKit

set_option maxRecDepth 100000 in
set_option maxHeartbeats 1000000 in
theorem idxSg_any (aa : Option Addr) (l : List Sgn) (ca : Nat) (lb : Array Value) (p : Nat → Bool) (w : World) (hA : SgnS w aa l)
    (hp : ∀ j ad cp W, j < l.length → PairsS W ad (gs l j).cv → Below w.heap.size w W → Calls Tryz.prog 110 (#[.agg #[.int .i64 (gs l j).n, .int .i64 (gs l j).k, .int .i64 (gs l j).v, .int .i64 (gs l j).c, .int .i64 (gs l j).d, .int .i64 (gs l j).rk, .int .i64 (gs l j).up, .int .i64 (gs l j).dn, .slice ad (gs l j).cv.length cp]] ++ lb) W fun e w' => e = .returned (.bool (p j)) ∧ Below W.heap.size W w') :
    Calls Tryz.prog 138 #[.slice aa l.length ca, .func (.func 110) #[] lb] w fun e w' => e = .returned (.int .i64 (idxK p l.length)) ∧ Below w.heap.size w w' := by
  obtain ⟨hlen, blk, off, ad, cp, hadr, hc⟩ := hA
  have HP := Lib.hid hp
  have HC := Lib.hid hc
  have HH : Hid (∀ k, k < l.length → p k = true → (∀ j, j < k → p j = false) → idxK p l.length = k) := Lib.hid fun k hk h hb => idxK_hit h hb _ hk
  have HM : Hid ((∀ j, j < l.length → p j = false) → idxK p l.length = -1) := Lib.hid fun h => idxK_miss _ h
  have HL : Hid (0 < l.length → aa = some ⟨blk, off, none⟩) := Lib.hid fun h => hadr (pos_ne (n := 0) h)
  generalize idxK p l.length = R at *
  clear hp hc hadr
  go_enter Tryz.func138, Tryz.ntmps138
  go_wp2_with fail
  go_loopw [8] (fun i wr => ∃ k : Nat, k ≤ l.length ∧ i = .int .i64 k ∧ Below w.heap.size w wr ∧ Hid (∀ j, j < k → p j = false)) (fun i _ => l.length - (intOf i).toNat)
  case atStart => exact ⟨0, Nat.zero_le _, rfl, Below.refl _ _, Lib.hid fun j hj => absurd hj (Nat.not_lt_zero _)⟩
  case round =>
    obtain ⟨k, hk, rfl, hb, HA⟩ := hrel
    by_cases hlt : k < l.length
    · obtain rfl := HL.out (by omega)
      obtain ⟨⟨c0, c1, c2, c3, c4, c5, c6, c7⟩, c8, hpr⟩ := HC.out k hlt
      have c0 := cell_below c0 hb
      have c1 := cell_below c1 hb
      have c2 := cell_below c2 hb
      have c3 := cell_below c3 hb
      have c4 := cell_below c4 hb
      have c5 := cell_below c5 hb
      have c6 := cell_below c6 hb
      have c7 := cell_below c7 hb
      have c8 := cell_below c8 hb
      have HK := Lib.hid (fun W hW => HP.out k (ad k) (cp k) W hlt (hpr.below hW) hW)
      have HHk := Lib.hid (HH.out k hlt)
      have HN : Hid (p k = false → ∀ j, j < k + 1 → p j = false) := Lib.hid fun h j hj => by
        by_cases e : j = k
        · subst e; exact h
        · exact HA.out j (by omega)
      clear HP HC HM HL HH hpr
      generalize ad k = adk at *
      generalize cp k = cpk at *
      generalize gs l k = s at *
      cases hpk : p k with
      | true =>
        have HR := Lib.hid (HHk.out hpk HA.out)
        rw [hpk] at HK
        clear hpk HHk HN
        go_wp2_with fail
        refine (HK.out _ hb).mono ?_
        rintro e w1 ⟨rfl, hb1⟩
        go_wp2_with fail
        go_ret
        rw [HR.out]
        exact ⟨rfl, hb.trans (hb1.mono hb.size)⟩
      | false =>
        have HR := Lib.hid (HN.out hpk)
        rw [hpk] at HK
        clear hpk HHk HN
        go_wp2_with fail
        refine (HK.out _ hb).mono ?_
        rintro e w1 ⟨rfl, hb1⟩
        go_wp2_with fail
        go_roundw
        case rel => exact ⟨k + 1, by omega, by go_num, hb.trans (hb1.mono hb.size), HR⟩
        case measure => simp [intOf]; omega
    · obtain rfl : k = l.length := by omega
      have HR := Lib.hid (HM.out HA.out)
      go_wp2_with fail
      go_ret
      rw [HR.out]
      exact ⟨rfl, hb⟩
set_option maxRecDepth 100000 in
theorem containsSg_any (aa : Option Addr) (l : List Sgn) (ca : Nat) (lb : Array Value) (p : Nat → Bool) (w : World) (hA : SgnS w aa l)
    (hp : ∀ j ad cp W, j < l.length → PairsS W ad (gs l j).cv → Below w.heap.size w W → Calls Tryz.prog 110 (#[.agg #[.int .i64 (gs l j).n, .int .i64 (gs l j).k, .int .i64 (gs l j).v, .int .i64 (gs l j).c, .int .i64 (gs l j).d, .int .i64 (gs l j).rk, .int .i64 (gs l j).up, .int .i64 (gs l j).dn, .slice ad (gs l j).cv.length cp]] ++ lb) W fun e w' => e = .returned (.bool (p j)) ∧ Below W.heap.size W w') :
    Calls Tryz.prog 109 #[.slice aa l.length ca, .func (.func 110) #[] lb] w fun e w' => e = .returned (.bool (anyK p l.length)) ∧ Below w.heap.size w w' := by
  have H := Lib.hid (idxSg_any aa l ca lb p w hA hp)
  have hq := Lib.hid (idxK_any p l.length)
  clear hp hA
  generalize idxK p l.length = R at *
  generalize anyK p l.length = B at *
  have hq := hq.out
  subst hq
  go_enter Tryz.func109, Tryz.ntmps109
  go_wp2_with fail
  refine H.out.mono ?_
  rintro e w1 ⟨rfl, hb1⟩
  go_wp2_with fail
  all_goals
    go_ret
    exact ⟨by simp_all, hb1⟩
set_option maxRecDepth 100000 in
theorem sg1_r (L : Int) (a : Option Addr) (js : List Int) (ca B : Nat) (s : Sgn) (ad : Option Addr) (cp : Nat) (w : World) (hP : PairsS w ad s.cv) (hB : B < w.heap.size) (c0 : w.cell? ⟨B, 0, none⟩ = some (.int .i64 L)) (c1 : w.cell? ⟨B, 1, none⟩ = some (.slice a js.length ca)) :
    Calls Tryz.prog 110 (#[.agg #[.int .i64 s.n, .int .i64 s.k, .int .i64 s.v, .int .i64 s.c, .int .i64 s.d, .int .i64 s.rk, .int .i64 s.up, .int .i64 s.dn, .slice ad s.cv.length cp]] ++ #[.pointer (some ⟨B, 0, none⟩)]) w fun e w' => e = .returned (.bool (!(sgnB L s))) ∧ Below w.heap.size w w' := by
  have H := Lib.hid (fun W (hW : Below w.heap.size w W) => signValid_r L a js ca s ad cp W (hP.below hW))
  generalize sgnB L s = b at *
  have hq : Hid (∀ c t o, o < 2 → (w.alloc (.cells c t)).cell? ⟨B, o, none⟩ = w.cell? ⟨B, o, none⟩) := Lib.hid fun c t o _ => ((Below.refl w.heap.size w).alloc (Nat.le_refl _) _).cell (p := ⟨B, o, none⟩) hB
  have q0 : ∀ c t, (w.alloc (.cells c t)).cell? ⟨B, 0, none⟩ = some (.int .i64 L) := fun c t => (hq.out c t 0 (by omega)).trans c0
  have q1 : ∀ c t, (w.alloc (.cells c t)).cell? ⟨B, 1, none⟩ = some (.slice a js.length ca) := fun c t => (hq.out c t 1 (by omega)).trans c1
  clear hP hq
  go_enter Tryz.func110, Tryz.ntmps110
  go_wp2_with (go_at_call 111; refine (H.out _ ((Below.refl _ _).alloc (Nat.le_refl _) _)).mono ?_; rintro e w' ⟨rfl, hb⟩)
  go_ret
  exact ⟨rfl, below_onR ((Below.refl _ _).alloc (Nat.le_refl _) _) hb⟩
set_option maxRecDepth 100000 in
theorem sg2_r (s : Sgn) (ad : Option Addr) (cp : Nat) (w : World) :
    Calls Tryz.prog 113 #[.agg #[.int .i64 s.n, .int .i64 s.k, .int .i64 s.v, .int .i64 s.c, .int .i64 s.d, .int .i64 s.rk, .int .i64 s.up, .int .i64 s.dn, .slice ad s.cv.length cp]] w fun e w' => e = .returned (.int .i64 s.n) ∧ Below w.heap.size w w' := by
  go_enter Tryz.func113, Tryz.ntmps113
  go_wp2_with fail
  go_ret
  exact ⟨rfl, (Below.refl _ _).alloc (Nat.le_refl _) _⟩
end Go.Proofs.YtiagflackfkmnaaGreat
