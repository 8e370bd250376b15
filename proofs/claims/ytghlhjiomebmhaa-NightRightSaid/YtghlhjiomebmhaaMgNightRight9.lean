/-
  Most and Best of package night. By an AI agent.
-/
import Derived.Test.YtghlhjiomebmhaaMgNightRight8


namespace Go.Proofs.Ytghlhjiomebmhaa
set_option linter.unusedVariables false
set_option linter.unusedSimpArgs false
open Go.RowKit

/-- A plan with as many jobs done as the search finds. -/
def grtL (js : List Jo) (ns : List Ni) : List Int := grtK (chL js ns) (psL ns) (ns.length + 1) js.length (List.replicate js.length (-1))
def mostN (js : List Jo) (ns : List Ni) : Int := dnN (grtL js ns)
/-- The least of the greatest plans, as the search finds it. -/
def bestL (js : List Jo) (ns : List Ni) : List Int :=
  rplK (lstK (furL (chL js ns) ns.length) (psL ns ++ [(js.length : Int) - mostN js ns]) (ns.length + 1 + 1) js.length (rplK (grtL js ns) (-1) ns.length js.length)) ns.length (-1) js.length
theorem grtL_len (js : List Jo) (ns : List Ni) : (grtL js ns).length = js.length := by unfold grtL; rw [grtK_len]; simp
theorem errL_ok {js : List Jo} {ns : List Ni} (h : errL js ns = 0) : jobsB js = true ∧ nightsB ns = true := by
  unfold errL at h
  split at h
  · next h1 =>
    split at h
    · next h2 => exact ⟨h1, h2⟩
    · cases h
  · cases h
theorem jobsB_len {js : List Jo} (h : jobsB js = true) : js.length ≤ 60 := by
  unfold jobsB at h
  rw [Bool.and_eq_true] at h
  exact of_decide_eq_true h.1
theorem nightsB_len {ns : List Ni} (h : nightsB ns = true) : ns.length ≤ 60 := by
  unfold nightsB at h
  rw [Bool.and_eq_true] at h
  exact of_decide_eq_true h.1
theorem nightsB_ok {ns : List Ni} (h : nightsB ns = true) {i : Nat} (hi : i < ns.length) : nightB (gn ns i) = true := by
  unfold nightsB at h
  rw [Bool.and_eq_true, Bool.not_eq_true', anyK_iff] at h
  have := h.2 i hi
  simpa using this
theorem nightB_p {s : Ni} (h : nightB s = true) : 0 ≤ s.p ∧ s.p ≤ 100 := by
  unfold nightB at h
  simp only [Bool.and_eq_true] at h
  exact (btw_iff _ _ _).1 h.2.2.2
theorem dnN_b (l : List Int) : 0 ≤ dnN l ∧ dnN l ≤ l.length := by
  have := cntN_le l (-1)
  unfold dnN
  exact ⟨by omega, by omega⟩
set_option maxRecDepth 100000 in
set_option maxHeartbeats 2000000 in
theorem most_bad (a : Option Addr) (js : List Jo) (ca : Nat) (b : Option Addr) (ns : List Ni) (cb : Nat) (w : World) (hA : JobsS w a js) (hB : NightsS w b ns) (he : errL js ns ≠ 0) :
    Calls Try.prog 19 #[.slice a js.length ca, .slice b ns.length cb] w fun e w' => e = .returned (.tuple #[.int .i64 0, .int .i64 (errL js ns)]) ∧ Below w.heap.size w w' := by
  have H1 := Lib.hid (listsError_r a js ca b ns cb w hA hB)
  clear hA hB
  generalize errL js ns = E at *
  have hE : (E == 0) = false := beq_false_of_ne he
  clear he
  go_enter Try.func19, Try.ntmps19
  go_wp2_with fail
  refine H1.out.mono ?_
  rintro e w1 ⟨rfl, hb1⟩
  go_wp2_with fail
  go_ret2
  exact ⟨rfl, hb1⟩
set_option maxRecDepth 100000 in
set_option maxHeartbeats 2000000 in
theorem most_ok (a : Option Addr) (js : List Jo) (ca : Nat) (b : Option Addr) (ns : List Ni) (cb : Nat) (w : World) (hA : JobsS w a js) (hB : NightsS w b ns) (he : errL js ns = 0) :
    Calls Try.prog 19 #[.slice a js.length ca, .slice b ns.length cb] w fun e w' => e = .returned (.tuple #[.int .i64 (mostN js ns), .int .i64 0]) ∧ Below w.heap.size w w' := by
  obtain ⟨v1, v2⟩ := errL_ok he
  have hj := jobsB_len v1
  have hn := nightsB_len v2
  have H1 := Lib.hid (listsError_r a js ca b ns cb w hA hB)
  have H2 := Lib.hid (fun W (hW : Below w.heap.size w W) => offerOf_r a js ca b ns cb W (hA.below hW) (hB.below hW) (by omega) (by omega) (fun i hi => by have := nightB_p (nightsB_ok v2 hi); exact ⟨by omega, by omega⟩))
  have hMN : Hid (mostN js ns = dnN (grtL js ns)) := Lib.hid rfl
  have hGL := Lib.hid (grtL_len js ns)
  have hG : Hid (grtK (chL js ns) (psL ns) (ns.length + 1) js.length (List.replicate js.length (-1)) = grtL js ns) := Lib.hid rfl
  rw [he] at H1
  clear hA hB he v1 v2
  go_enter Try.func19, Try.ntmps19
  go_wp2_with fail
  refine H1.out.mono ?_
  rintro e w1 ⟨rfl, hb1⟩
  go_wp2_with fail
  refine (H2.out _ hb1).mono ?_
  rintro e w2 ⟨ac, cc, ap, cp, rfl, hO, hb2⟩
  have H3 := Lib.hid (greatest_r _ _ ac ap cc cp _ _ w2 hO)
  rw [hG.out] at H3
  have hbA := below_onN hb1 hb2 hb1.size
  clear H1 H2 hO hb1 hb2
  go_wp2_with fail
  refine H3.out.mono ?_
  rintro e w3 ⟨g, cg, rfl, hP, hg1, hg2, hb3⟩
  have H4 := Lib.hid (done_r (some ⟨g, 0, none⟩) (grtL js ns) cg w3 (hP.ints (by rw [hGL.out]; omega)) (by rw [hGL.out]; omega))
  have hbB := below_onN hbA hb3 hbA.size
  clear H3 hP hb3 hbA
  go_wp2_with fail
  refine H4.out.mono ?_
  rintro e w4 ⟨rfl, hb4⟩
  go_wp2_with fail
  go_ret2
  exact ⟨by rw [hMN.out]; rfl, below_onN hbB hb4 hbB.size⟩
end Go.Proofs.Ytghlhjiomebmhaa
