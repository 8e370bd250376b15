/-
  The law RoadAhead: it answers true. By an AI agent.
-/
import Derived.Test.YtacmeadmmjehmaaRoadN
import Derived.Test.YtacmeadmmjehmaaRoadAw
namespace Go.Proofs.Ytacmeadmmjehmaa
set_option linter.unusedVariables false
set_option linter.unusedSimpArgs false
open Go.RowKit

set_option maxRecDepth 100000 in
set_option maxHeartbeats 1000000 in
theorem roadAhead_any (d a b : Int) (w : World) (hd : I64 d) (ha : I64 a) (hb : I64 b) :
    Calls Try.prog 9 #[.int .i64 d, .int .i64 a, .int .i64 b] w fun e w' => e = .returned (.bool true) ∧ Below w.heap.size w w' := by
  have HA := Lib.hid awake_any
  by_cases h1 : d = 1
  · subst h1
    by_cases hab : (0 ≤ a ∧ a ≤ 10000000) ∧ 0 ≤ b ∧ b ≤ 10000000
    · obtain ⟨⟨a0, a1⟩, b0, b1⟩ := hab
      have e1 : -(b - a) = a - b := by omega
      clear hd ha hb
      go_enter Try.func9, Try.ntmps9
      go_wp2_with fail
      refine (Ahead_up a b _ ⟨a0, a1⟩ ⟨b0, b1⟩).mono ?_
      rintro e w1 ⟨rfl, hb⟩
      go_wp2_with fail
      refine (refAhead_up a b _ ⟨a0, a1⟩ ⟨b0, b1⟩).mono ?_
      rintro e w2 ⟨rfl, hb2⟩
      have hb := below_on hb hb2
      clear hb2
      go_wp2_with fail
      refine (Ahead_up b a _ ⟨b0, b1⟩ ⟨a0, a1⟩).mono ?_
      rintro e w3 ⟨rfl, hb3⟩
      have hb := below_on hb hb3
      clear hb3
      go_wp2_with fail
      refine (Ahead_dn a b _ ⟨a0, a1⟩ ⟨b0, b1⟩).mono ?_
      rintro e w4 ⟨rfl, hb4⟩
      have hb := below_on hb hb4
      clear hb4
      go_wp2_with fail
      refine (HA.out _).mono ?_
      rintro e w5 ⟨rfl, hb5⟩
      have hb := below_on hb hb5
      clear hb5
      go_wp2_with fail
      go_ret
      exact ⟨rfl, hb⟩

    · clear hd ha hb
      go_enter Try.func9, Try.ntmps9
      go_wp2_with fail
      refine (Ahead_upf a b _ hab).mono ?_
      rintro e w1 ⟨rfl, hb⟩
      go_wp2_with fail
      refine (refAhead_upf a b _ hab).mono ?_
      rintro e w2 ⟨rfl, hb2⟩
      have hb := below_on hb hb2
      clear hb2
      go_wp2_with fail
      refine (HA.out _).mono ?_
      rintro e w3 ⟨rfl, hb3⟩
      have hb := below_on hb hb3
      clear hb3
      go_wp2_with fail
      go_ret
      exact ⟨rfl, hb⟩

  · by_cases h2 : d = -1
    · subst h2
      by_cases hab : (0 ≤ a ∧ a ≤ 10000000) ∧ 0 ≤ b ∧ b ≤ 10000000
      · obtain ⟨⟨a0, a1⟩, b0, b1⟩ := hab
        have e1 : -(b - a) = a - b := by omega
        have e2 : -(a - b) = b - a := by omega
        clear hd ha hb
        go_enter Try.func9, Try.ntmps9
        go_wp2_with fail
        refine (Ahead_dn a b _ ⟨a0, a1⟩ ⟨b0, b1⟩).mono ?_
        rintro e w1 ⟨rfl, hb⟩
        go_wp2_with fail
        refine (refAhead_dn a b _ ⟨a0, a1⟩ ⟨b0, b1⟩).mono ?_
        rintro e w2 ⟨rfl, hb2⟩
        have hb := below_on hb hb2
        clear hb2
        go_wp2_with fail
        refine (Ahead_dn b a _ ⟨b0, b1⟩ ⟨a0, a1⟩).mono ?_
        rintro e w3 ⟨rfl, hb3⟩
        have hb := below_on hb hb3
        clear hb3
        go_wp2_with fail
        refine (Ahead_up a b _ ⟨a0, a1⟩ ⟨b0, b1⟩).mono ?_
        rintro e w4 ⟨rfl, hb4⟩
        have hb := below_on hb hb4
        clear hb4
        go_wp2_with fail
        refine (HA.out _).mono ?_
        rintro e w5 ⟨rfl, hb5⟩
        have hb := below_on hb hb5
        clear hb5
        go_wp2_with fail
        go_ret
        exact ⟨rfl, hb⟩

      · clear hd ha hb
        go_enter Try.func9, Try.ntmps9
        go_wp2_with fail
        refine (Ahead_dnf a b _ hab).mono ?_
        rintro e w1 ⟨rfl, hb⟩
        go_wp2_with fail
        refine (refAhead_dnf a b _ hab).mono ?_
        rintro e w2 ⟨rfl, hb2⟩
        have hb := below_on hb hb2
        clear hb2
        go_wp2_with fail
        refine (HA.out _).mono ?_
        rintro e w3 ⟨rfl, hb3⟩
        have hb := below_on hb hb3
        clear hb3
        go_wp2_with fail
        go_ret
        exact ⟨rfl, hb⟩

    · have H1 := Lib.hid (fun W => Ahead_no d a b W h1 h2)
      have H2 := Lib.hid (fun W => refAhead_no d a b W h1 h2)
      clear hd ha hb h1 h2
      go_enter Try.func9, Try.ntmps9
      go_wp2_with fail
      refine (H1.out _).mono ?_
      rintro e w1 ⟨rfl, hb⟩
      go_wp2_with fail
      refine (H2.out _).mono ?_
      rintro e w2 ⟨rfl, hb2⟩
      have hb := below_on hb hb2
      clear hb2
      go_wp2_with fail
      refine (HA.out _).mono ?_
      rintro e w3 ⟨rfl, hb3⟩
      have hb := below_on hb hb3
      clear hb3
      go_wp2_with fail
      go_ret
      exact ⟨rfl, hb⟩

end Go.Proofs.Ytacmeadmmjehmaa
