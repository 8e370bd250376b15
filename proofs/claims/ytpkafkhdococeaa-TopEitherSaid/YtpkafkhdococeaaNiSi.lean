/-
  indexes at the closure of Shortage. By an AI agent.
-/
import Derived.Test.YtpkafkhdococeaaNiSh
import Derived.Deep.RegionHeld3
import Derived.Deep.AppendLies
import Derived.BigQuiet
namespace Go.Proofs.Ytpkafkhdococeaa
set_option linter.unusedVariables false
set_option linter.unusedSimpArgs false
open Go.RowKit

set_option maxRecDepth 100000 in
set_option maxHeartbeats 2000000 in
theorem indexes_sh (n : Nat) (hn : n ≤ 100000) (lb : Array Value) (p : Nat → Bool) (w : World)
    (hp : ∀ j W, j < n → Below w.heap.size w W → Calls Try.prog 69 (#[.int .i64 j] ++ lb) W fun e w' => e = .returned (.bool (p j)) ∧ Below W.heap.size W w') :
    Calls Try.prog 52 #[.int .i64 n, .func (.func 69) #[] lb] w fun e w' => IdxE w (selK p n) e w' := by
  have HP := Lib.hid hp
  have HS : Hid (∀ k, selK p (k + 1) = if p k = true then selK p k ++ [(k : Int)] else selK p k) := Lib.hid fun k => rfl
  have HN : Hid (∀ k, (selK p k).length ≤ k) := Lib.hid (selK_len p)
  have H0 : Hid (selK p 0 = []) := Lib.hid rfl
  clear hp
  go_enter Try.func52, Try.ntmps52
  go_wp2_with fail
  go_loopw [5, 8] (fun v i wr => ∃ k : Nat, k ≤ n ∧ i = .int .i64 k ∧ (∃ a c, v = .slice a (selK p k).length c) ∧ Hid (wr.ownsRow w.heap.size 3 1 v (selK p k).length (clI (selK p k))) ∧ Below w.heap.size w wr) (fun _ i _ => n - (intOf i).toNat)
  case atStart => exact ⟨0, Nat.zero_le _, rfl, ⟨none, 0, by rw [H0.out]; rfl⟩, Lib.hid (by rw [H0.out]; exact ⟨rfl, .inl ⟨rfl, rfl⟩⟩), Below.refl _ _⟩
  case round =>
    obtain ⟨k, hk, rfl, ⟨av, cv, rfl⟩, HRow, hb⟩ := hrel
    by_cases hlt : k < n
    · have HK := Lib.hid (fun W hW => HP.out k W hlt hW)
      have HSk := Lib.hid (HS.out k)
      have hNk := HN.out k
      clear HP HS H0 HN
      cases hpk : p k with
      | false =>
        rw [hpk] at HK HSk
        have HS1 : Hid (selK p (k + 1) = selK p k) := Lib.hid (HSk.out.trans (if_neg (by decide)))
        clear hpk HSk
        generalize hX : selK p k = X at *
        clear hX
        go_wp2_with fail
        refine (HK.out _ hb).mono ?_
        rintro e w1 ⟨rfl, hb1⟩
        have HRow := Lib.hid (owns_belowI HRow.out hb1)
        have hb := below_onN hb hb1 hb.size
        clear hb1
        go_wp2_with fail
        go_roundw
        case rel => exact ⟨k + 1, by omega, by go_num, ⟨av, cv, by rw [HS1.out]⟩, by rw [HS1.out]; exact HRow, hb⟩
        case measure => simp [intOf]; omega
      | true =>
        rw [hpk] at HK HSk
        have HS1 : Hid (selK p (k + 1) = selK p k ++ [(k : Int)]) := Lib.hid (HSk.out.trans (if_pos rfl))
        clear hpk HSk
        generalize hX : selK p k = X at *
        clear hX
        go_wp2_with fail
        refine (HK.out _ hb).mono ?_
        rintro e w1 ⟨rfl, hb1⟩
        have HRow := Lib.hid (owns_belowI HRow.out hb1)
        have hb := below_onN hb hb1 hb.size
        have hbs := hb.size
        clear hb1 HK
        obtain ⟨m, hm⟩ : ∃ m, X.length = m := ⟨_, rfl⟩
        have HM := Lib.hid hm
        rw [hm] at HRow hNk
        rw [hm]
        clear hm
        have hown := Lib.hid (HRow.out.alloc (.cells #[.int .i64 k] 3))
        go_wp2_with (first | (at_builtin; go_loud (refine app_int rfl _ _ rfl w.heap.size m cv av _ rfl hown.out w1.heap.size (.int .i64 k) rfl ?d1 (by rfl) (by omega) ?d2 ?_)))
        case d1 => simp [go_sem]
        case d2 => first | (simp; omega) | omega
        intro g6 c6 w6 hown6 hb6
        have hb6 : Below w.heap.size w w6 := (hb.alloc hbs _).trans hb6
        have hrow6 : Hid (w6.ownsRow w.heap.size 3 1 (.slice (some ⟨g6, 0, none⟩) (m + 1) c6) (m + 1) (clI (X ++ [(k : Int)]))) := Lib.hid (by rw [clI_app]; exact hown6)
        clear hown6 hown HRow
        go_wp2_with fail
        go_roundw
        case rel => exact ⟨k + 1, by omega, by go_num, ⟨_, c6, by rw [HS1.out, List.length_append, HM.out]; rfl⟩, by rw [HS1.out, List.length_append, HM.out]; exact hrow6, hb6⟩
        case measure => simp [intOf]; omega
    · obtain rfl : k = n := by omega
      clear HP HS HN H0
      go_wp2_with fail
      go_ret
      exact ⟨av, cv, rfl, HRow.out, hb⟩
end Go.Proofs.Ytpkafkhdococeaa
