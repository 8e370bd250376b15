/-
  ContainsFunc over nights; listsError of package night. By an AI agent.
-/
import Derived.Test.YtghlhjiomebmhaaNiD
import Derived.Deep.RegionHeld3
import Derived.BigQuiet
namespace Go.Proofs.Ytghlhjiomebmhaa
set_option linter.unusedVariables false
set_option linter.unusedSimpArgs false
open Go.RowKit

set_option maxRecDepth 100000 in
set_option maxHeartbeats 1000000 in
theorem idxNi_any (aa : Option Addr) (l : List Ni) (ca : Nat) (lb : Array Value) (p : Nat → Bool) (w : World) (hA : NightsS w aa l)
    (hp : ∀ j W, j < l.length → Below w.heap.size w W → Calls Try.prog 51 (#[.agg #[.int .i64 (gn l j).d, .int .i64 (gn l j).r, .int .i64 (gn l j).f, .int .i64 (gn l j).t, .int .i64 (gn l j).w, .int .i64 (gn l j).p, .bool (gn l j).rn, .bool (gn l j).fr]] ++ lb) W fun e w' => e = .returned (.bool (p j)) ∧ Below W.heap.size W w') :
    Calls Try.prog 68 #[.slice aa l.length ca, .func (.func 51) #[] lb] w fun e w' => e = .returned (.int .i64 (idxK p l.length)) ∧ Below w.heap.size w w' := by
  obtain ⟨hlen, blk, off, hadr, hc⟩ := hA
  have HP := Lib.hid hp
  have HC := Lib.hid hc
  have HH : Hid (∀ k, k < l.length → p k = true → (∀ j, j < k → p j = false) → idxK p l.length = k) := Lib.hid fun k hk h hb => idxK_hit h hb _ hk
  have HM : Hid ((∀ j, j < l.length → p j = false) → idxK p l.length = -1) := Lib.hid fun h => idxK_miss _ h
  have HL : Hid (0 < l.length → aa = some ⟨blk, off, none⟩) := Lib.hid fun h => hadr (pos_ne (n := 0) h)
  generalize idxK p l.length = R at *
  clear hp hc hadr
  go_enter Try.func68, Try.ntmps68
  go_wp2_with fail
  go_loopw [8] (fun i wr => ∃ k : Nat, k ≤ l.length ∧ i = .int .i64 k ∧ Below w.heap.size w wr ∧ Hid (∀ j, j < k → p j = false)) (fun i _ => l.length - (intOf i).toNat)
  case atStart => exact ⟨0, Nat.zero_le _, rfl, Below.refl _ _, Lib.hid fun j hj => absurd hj (Nat.not_lt_zero _)⟩
  case round =>
    obtain ⟨k, hk, rfl, hb, HA⟩ := hrel
    by_cases hlt : k < l.length
    · obtain rfl := HL.out (by omega)
      obtain ⟨c0, c1, c2, c3, c4, c5, c6, c7⟩ := HC.out k hlt
      have c0 := cell_below c0 hb
      have c1 := cell_below c1 hb
      have c2 := cell_below c2 hb
      have c3 := cell_below c3 hb
      have c4 := cell_below c4 hb
      have c5 := cell_below c5 hb
      have c6 := cell_below c6 hb
      have c7 := cell_below c7 hb
      have HK := Lib.hid (fun W hW => HP.out k W hlt hW)
      have HHk := Lib.hid (HH.out k hlt)
      have HN : Hid (p k = false → ∀ j, j < k + 1 → p j = false) := Lib.hid fun h j hj => by
        by_cases e : j = k
        · subst e; exact h
        · exact HA.out j (by omega)
      clear HP HC HM HL HH
      generalize gn l k = s at *
      cases hpk : p k with
      | true =>
        have HR := Lib.hid (HHk.out hpk HA.out)
        rw [hpk] at HK
        clear hpk HHk HN
        go_wp2_with fail
        refine (HK.out _ hb).mono ?_
        rintro e w1 ⟨rfl, hb1⟩
        go_wp2_with fail
        go_ret
        rw [HR.out]
        exact ⟨rfl, hb.trans (hb1.mono hb.size)⟩
      | false =>
        have HR := Lib.hid (HN.out hpk)
        rw [hpk] at HK
        clear hpk HHk HN
        go_wp2_with fail
        refine (HK.out _ hb).mono ?_
        rintro e w1 ⟨rfl, hb1⟩
        go_wp2_with fail
        go_roundw
        case rel => exact ⟨k + 1, by omega, by go_num, hb.trans (hb1.mono hb.size), HR⟩
        case measure => simp [intOf]; omega
    · obtain rfl : k = l.length := by omega
      have HR := Lib.hid (HM.out HA.out)
      go_wp2_with fail
      go_ret
      rw [HR.out]
      exact ⟨rfl, hb⟩
set_option maxRecDepth 100000 in
theorem containsNi_any (aa : Option Addr) (l : List Ni) (ca : Nat) (lb : Array Value) (p : Nat → Bool) (w : World) (hA : NightsS w aa l)
    (hp : ∀ j W, j < l.length → Below w.heap.size w W → Calls Try.prog 51 (#[.agg #[.int .i64 (gn l j).d, .int .i64 (gn l j).r, .int .i64 (gn l j).f, .int .i64 (gn l j).t, .int .i64 (gn l j).w, .int .i64 (gn l j).p, .bool (gn l j).rn, .bool (gn l j).fr]] ++ lb) W fun e w' => e = .returned (.bool (p j)) ∧ Below W.heap.size W w') :
    Calls Try.prog 50 #[.slice aa l.length ca, .func (.func 51) #[] lb] w fun e w' => e = .returned (.bool (anyK p l.length)) ∧ Below w.heap.size w w' := by
  have H := Lib.hid (idxNi_any aa l ca lb p w hA hp)
  have hq := Lib.hid (idxK_any p l.length)
  clear hp hA
  generalize idxK p l.length = R at *
  generalize anyK p l.length = B at *
  have hq := hq.out
  subst hq
  go_enter Try.func50, Try.ntmps50
  go_wp2_with fail
  refine H.out.mono ?_
  rintro e w1 ⟨rfl, hb1⟩
  go_wp2_with fail
  all_goals
    go_ret
    exact ⟨by simp_all, hb1⟩
set_option maxRecDepth 100000 in
set_option maxHeartbeats 1000000 in
theorem listsError_r (a : Option Addr) (js : List Jo) (ca : Nat) (b : Option Addr) (ns : List Ni) (cb : Nat) (w : World) (hA : JobsS w a js) (hB : NightsS w b ns) :
    Calls Try.prog 25 #[.slice a js.length ca, .slice b ns.length cb] w fun e w' => e = .returned (.int .i64 (errL js ns)) ∧ Below w.heap.size w w' := by
  have H1 := Lib.hid (jobsValid_r a js ca w hA)
  have H2 := Lib.hid (fun W (hW : Below w.heap.size w W) => containsNi_any b ns cb #[] (fun j => !(nightB (gn ns j))) W (hB.below hW) (fun j W' hj hW' => wrongN_r (gn ns j) W'))
  have HX : Hid (errL js ns = if jobsB js = true then (if (decide (ns.length ≤ 60) && !(anyK (fun k => !(nightB (gn ns k))) ns.length)) = true then 0 else 81) else 80) := Lib.hid rfl
  have hlen := hB.1
  clear hA hB
  generalize anyK (fun k => !(nightB (gn ns k))) ns.length = A at *
  cases g : jobsB js with
  | false =>
    rw [g] at H1 HX
    have HR : Hid (errL js ns = 80) := Lib.hid (HX.out.trans rfl)
    clear HX H2 g
    go_enter Try.func25, Try.ntmps25
    go_wp2_with fail
    refine H1.out.mono ?_
    rintro e w1 ⟨rfl, hb1⟩
    go_wp2_with fail
    go_ret
    exact ⟨by rw [HR.out]; rfl, hb1⟩
  | true =>
    rw [g] at H1 HX
    clear g
    by_cases h60 : ns.length ≤ 60
    · have d60 : decide ((60 : Int) < ns.length) = false := decide_eq_false (by omega)
      have HX : Hid (errL js ns = if (!A) = true then 0 else 81) := Lib.hid (by rw [HX.out, decide_eq_true h60]; rfl)
      cases A with
      | true =>
        have HR : Hid (errL js ns = 81) := Lib.hid (HX.out.trans rfl)
        clear HX
        go_enter Try.func25, Try.ntmps25
        go_wp2_with fail
        refine H1.out.mono ?_
        rintro e w1 ⟨rfl, hb1⟩
        go_wp2_with fail
        refine (H2.out _ hb1).mono ?_
        rintro e w2 ⟨rfl, hb2⟩
        go_wp2_with fail
        go_ret
        exact ⟨by rw [HR.out]; rfl, below_onN hb1 hb2 hb1.size⟩
      | false =>
        have HR : Hid (errL js ns = 0) := Lib.hid (HX.out.trans rfl)
        clear HX
        go_enter Try.func25, Try.ntmps25
        go_wp2_with fail
        refine H1.out.mono ?_
        rintro e w1 ⟨rfl, hb1⟩
        go_wp2_with fail
        refine (H2.out _ hb1).mono ?_
        rintro e w2 ⟨rfl, hb2⟩
        go_wp2_with fail
        go_ret
        exact ⟨by rw [HR.out]; rfl, below_onN hb1 hb2 hb1.size⟩
    · have d60 : decide ((60 : Int) < ns.length) = true := decide_eq_true (by omega)
      have HR : Hid (errL js ns = 81) := Lib.hid (by rw [HX.out, decide_eq_false h60]; rfl)
      clear HX H2
      go_enter Try.func25, Try.ntmps25
      go_wp2_with fail
      refine H1.out.mono ?_
      rintro e w1 ⟨rfl, hb1⟩
      go_wp2_with fail
      go_ret
      exact ⟨by rw [HR.out]; rfl, hb1⟩
end Go.Proofs.Ytghlhjiomebmhaa
