/-
  The walks of long and of the reference's Coefficient. By an AI agent.
-/
import Derived.Test.YtelehohffcncaaaLightH
import Derived.Test.YtelehohffcncaaaLightG
import Derived.Deep.RegionLaw
namespace Go.Proofs.Ytelehohffcncaaa
set_option linter.unusedVariables false
set_option linter.unusedSimpArgs false
open Go.RowKit

def SomeBool (e : Ending) : Prop := ∃ b, e = .returned (.bool b)
theorem some_bool (b : Bool) : SomeBool (.returned (.bool b)) := ⟨b, rfl⟩

set_option maxRecDepth 100000 in
set_option maxHeartbeats 1000000 in
theorem long_any (ao ae ar : Option Addr) (o e : List Int) (r : List (List Int)) (co ce cr : Nat) (w : World) (hT : TableS w ao ae ar o e r) :
    Calls Try.prog 5 #[.agg #[.slice ao o.length co, .slice ae e.length ce, .slice ar r.length cr]] w fun E w' => SomeBool E ∧ Below w.heap.size w w' := by
  obtain ⟨⟨ho, _⟩, ⟨he, _⟩, hr, br, fr, ad, cp, har, hrr⟩ := hT
  by_cases h1 : 40 < o.length
  · clear hrr har
    go_enter Try.func5, Try.ntmps5
    go_wp2_with fail
    go_ret
    refine ⟨some_bool _, ?_⟩
    go_grown
  · by_cases h2 : 40 < e.length
    · clear hrr har
      go_enter Try.func5, Try.ntmps5
      go_wp2_with fail
      go_ret
      refine ⟨some_bool _, ?_⟩
      go_grown
    · by_cases h3 : 40 < r.length
      · have h3' : (40 : Int) < (r.length : Int) := by omega
        clear hrr har
        go_enter Try.func5, Try.ntmps5
        go_wp2_with fail
        go_ret
        refine ⟨some_bool _, ?_⟩
        go_grown
      · have h3' : ¬ (40 : Int) < (r.length : Int) := by omega
        go_enter Try.func5, Try.ntmps5
        go_wp2_with fail
        go_loop [3] (fun x => ∃ k : Nat, k ≤ r.length ∧ x = .int .i64 k) (fun x => r.length - (intOf x).toNat)
        case atStart => exact ⟨0, Nat.zero_le _, rfl⟩
        case round =>
          obtain ⟨k, hk, rfl⟩ := hrel
          by_cases hlt : k < r.length
          · obtain rfl := har (fun h => by rw [h] at hlt; simp at hlt)
            obtain ⟨c, ⟨hn, _⟩, _⟩ := hrr k hlt
            have hbl := block_lt c
            clear hrr har
            generalize (gr r k).length = q at *
            by_cases hq : 40 < q
            · go_wp2_with fail
              go_ret
              refine ⟨some_bool _, ?_⟩
              go_grown
            · go_wp2_with fail
              go_round
              case rel => exact ⟨k + 1, by omega, by go_num⟩
              case measure => simp [intOf]; omega
          · go_wp2_with fail
            go_ret
            refine ⟨some_bool _, ?_⟩
            go_grown

theorem above_clip {l : List Int} (h : SlopesOk l) {x : Int} : above l (clip l x) ↔ above l x := by
  have := slopes_le h (show 0 ≤ l.length - 1 by omega) (by have := h.1; omega)
  unfold above clip; omega

end Go.Proofs.Ytelehohffcncaaa
