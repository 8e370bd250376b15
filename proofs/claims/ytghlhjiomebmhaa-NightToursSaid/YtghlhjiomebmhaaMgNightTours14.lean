/-
  Shortage of package night. By an AI agent.; indexes at the closure of Shortage. By an AI agent.; Shortage of package night: what it returns. By an AI agent.; Plan of package night; what it returns is right and complete. By an AI agent.
-/
import Derived.Test.YtghlhjiomebmhaaMgNightTours12
import Derived.Test.YtghlhjiomebmhaaMgNightTours13
import Derived.Deep.RegionHeld3
import Derived.BigQuiet
import Derived.Carry
import Derived.Deep.AppendLies

namespace Go.Proofs.Ytghlhjiomebmhaa
set_option linter.unusedVariables false
set_option linter.unusedSimpArgs false
open Go.RowKit

theorem idxK_cases (p : Nat → Bool) : ∀ n, idxK p n = -1 ∨ ∃ k, k < n ∧ idxK p n = (k : Int) ∧ p k = true
  | 0 => .inl rfl
  | n + 1 => by
    rcases idxK_cases p n with h | ⟨k, h1, h2, h3⟩
    · unfold idxK
      rw [if_pos h]
      by_cases e : p n = true
      · rw [if_pos e]; exact .inr ⟨n, by omega, rfl, e⟩
      · rw [if_neg e]; exact .inl rfl
    · refine .inr ⟨k, by omega, ?_, h3⟩
      unfold idxK
      rw [if_neg (by rw [h2]; omega)]
      exact h2
set_option maxRecDepth 100000 in
set_option maxHeartbeats 1000000 in
theorem index_v (a : Option Addr) (l : List Int) (ca : Nat) (x : Int) (w : World) (hA : IntsC w a l) :
    Calls Try.prog 66 #[.slice a l.length ca, .int .i64 x] w fun e w' => e = .returned (.int .i64 (idxK (fun k => x == gi l k) l.length)) ∧ w' = w := by
  obtain ⟨hlen, blk, off, hadr, hc⟩ := hA
  have HC := Lib.hid hc
  have HL : Hid (0 < l.length → a = some ⟨blk, off, none⟩) := Lib.hid fun h => hadr (pos_ne (n := 0) h)
  have HH : Hid (∀ k, k < l.length → (x == gi l k) = true → (∀ j, j < k → (x == gi l j) = false) → idxK (fun k => x == gi l k) l.length = k) := Lib.hid fun k hk h hb => idxK_hit h hb _ hk
  have HM : Hid ((∀ j, j < l.length → (x == gi l j) = false) → idxK (fun k => x == gi l k) l.length = -1) := Lib.hid fun h => idxK_miss _ h
  generalize idxK (fun k => x == gi l k) l.length = R at *
  clear hc hadr
  go_enter Try.func66, Try.ntmps66
  go_wp2_with fail
  go_loopw [8] (fun i wr => ∃ k : Nat, k ≤ l.length ∧ i = .int .i64 k ∧ wr = w ∧ Hid (∀ j, j < k → (x == gi l j) = false)) (fun i _ => l.length - (intOf i).toNat)
  case atStart => exact ⟨0, Nat.zero_le _, rfl, rfl, Lib.hid fun j hj => absurd hj (Nat.not_lt_zero _)⟩
  case round =>
    obtain ⟨k, hk, rfl, rfl, HA⟩ := hrel
    by_cases hlt : k < l.length
    · obtain rfl := HL.out (by omega)
      have c0 := HC.out k hlt
      have HHk := Lib.hid (HH.out k hlt)
      have HN : Hid ((x == gi l k) = false → ∀ j, j < k + 1 → (x == gi l j) = false) := Lib.hid fun h j hj => by
        by_cases e : j = k
        · subst e; exact h
        · exact HA.out j (by omega)
      clear HC HM HL HH
      generalize hy : gi l k = y at *
      have hy := Lib.hid hy
      cases hpk : (x == y) with
      | true =>
        have HR := Lib.hid (HHk.out hpk HA.out)
        clear HHk HN
        go_wp2_with fail
        go_ret
        exact ⟨by rw [HR.out]; rfl, rfl⟩
      | false =>
        have HR := Lib.hid (HN.out hpk)
        clear HHk HN
        go_wp2_with fail
        go_roundw
        case rel => exact ⟨k + 1, by omega, by go_num, by first | rfl | trivial, HR⟩
        case measure => simp [intOf]; omega
    · obtain rfl : k = l.length := by omega
      have HR := Lib.hid (HM.out HA.out)
      go_wp2_with fail
      go_ret
      exact ⟨by rw [HR.out]; rfl, rfl⟩
end Go.Proofs.Ytghlhjiomebmhaa

namespace Go.Proofs.Ytghlhjiomebmhaa
set_option linter.unusedVariables false
set_option linter.unusedSimpArgs false
open Go.RowKit

end Go.Proofs.Ytghlhjiomebmhaa

namespace Go.Proofs.Ytghlhjiomebmhaa
set_option linter.unusedVariables false
set_option linter.unusedSimpArgs false
open Go.RowKit

theorem idxK_none {p : Nat → Bool} : ∀ n, idxK p n = -1 → ∀ k, k < n → p k = false
  | 0, _, k, hk => by omega
  | n + 1, h, k, hk => by
    unfold idxK at h
    by_cases e : idxK p n = -1
    · rw [if_pos e] at h
      by_cases e2 : k = n
      · subst e2
        cases e3 : p k with
        | false => rfl
        | true => rw [e3, if_pos rfl] at h; omega
      · exact idxK_none n e k (by omega)
    · rw [if_neg e] at h; exact absurd h e
/-- Nothing, or a shortage, comes back. -/
def ShE (js : List Jo) (ns : List Ni) (w : World) (e : Ending) (w' : World) : Prop :=
  (e = .returned (.tuple #[.slice none 0 0, .bool false, .int .i64 0]) ∧ Below w.heap.size w w' ∧ ∀ u, u < js.length → gi (grtL js ns) u ≠ -1) ∨
  ∃ (S : List Int) (a : Option Addr) (c : Nat), e = .returned (.tuple #[.slice a S.length c, .bool true, .int .i64 0]) ∧ IntsC w' a S ∧ isB js ns S = true ∧ Below w.heap.size w w' ∧ ∃ u, u < js.length ∧ gi (grtL js ns) u = -1
end Go.Proofs.Ytghlhjiomebmhaa

namespace Go.Proofs.Ytghlhjiomebmhaa
set_option linter.unusedVariables false
set_option linter.unusedSimpArgs false
open Go.RowKit

set_option maxRecDepth 100000 in
theorem contains_v (a : Option Addr) (l : List Int) (ca : Nat) (x : Int) (w : World) (hA : IntsC w a l) {v : Bool} (hv : decide (0 ≤ idxK (fun k => x == gi l k) l.length) = v) :
    Calls Try.prog 47 #[.slice a l.length ca, .int .i64 x] w fun e w' => e = .returned (.bool v) ∧ w' = w := by
  have H := Lib.hid (index_v a l ca x w hA)
  generalize idxK (fun k => x == gi l k) l.length = R at *
  subst hv
  clear hA
  go_enter Try.func47, Try.ntmps47
  go_wp2_with fail
  refine H.out.mono ?_
  rintro e w1 ⟨rfl, rfl⟩
  go_wp2_with fail
  go_ret
  exact ⟨rfl, rfl⟩
/-- The least of the plans that do all jobs. -/
def planL (js : List Jo) (ns : List Ni) : List Int := lstK (chL js ns) (psL ns) (ns.length + 1) js.length (grtL js ns)
theorem planL_len (js : List Jo) (ns : List Ni) : (planL js ns).length = js.length := by unfold planL; rw [lstK_len, grtL_len]
def PlaE (js : List Jo) (ns : List Ni) (w : World) (e : Ending) (w' : World) : Prop :=
  (e = .returned (.tuple #[.slice none 0 0, .int .i64 24]) ∧ Below w.heap.size w w' ∧ ∃ u, u < js.length ∧ gi (grtL js ns) u = -1) ∨
  ((∃ g c, e = .returned (.tuple #[.slice (some ⟨g, 0, none⟩) js.length c, .int .i64 0]) ∧ PlanR w' g (planL js ns) ∧ w.heap.size ≤ g ∧ g < w'.heap.size) ∧ Below w.heap.size w w' ∧ ∀ u, u < js.length → gi (grtL js ns) u ≠ -1)
set_option maxRecDepth 100000 in
set_option maxHeartbeats 4000000 in
theorem plan_ok (a : Option Addr) (js : List Jo) (ca : Nat) (b : Option Addr) (ns : List Ni) (cb : Nat) (w : World) (hA : JobsS w a js) (hB : NightsS w b ns) (he : errL js ns = 0) :
    Calls Try.prog 21 #[.slice a js.length ca, .slice b ns.length cb] w fun e w' => PlaE js ns w e w' := by
  obtain ⟨v1, v2⟩ := errL_ok he
  have hj := jobsB_len v1
  have hn := nightsB_len v2
  have hps : ∀ i, i < ns.length → 0 ≤ (gn ns i).p ∧ (gn ns i).p ≤ 100 := fun i hi => nightB_p (nightsB_ok v2 hi)
  have H1 := Lib.hid (listsError_r a js ca b ns cb w hA hB)
  have H2 := Lib.hid (fun W (hW : Below w.heap.size w W) => offerOf_r a js ca b ns cb W (hA.below hW) (hB.below hW) (by omega) (by omega) (fun i hi => by have := hps i hi; exact ⟨by omega, by omega⟩))
  have hGL := Lib.hid (grtL_len js ns)
  have hG : Hid (grtK (chL js ns) (psL ns) (ns.length + 1) js.length (List.replicate js.length (-1)) = grtL js ns) := Lib.hid rfl
  have hPD : Hid (lstK (chL js ns) (psL ns) (ns.length + 1) js.length (grtL js ns) = planL js ns) := Lib.hid rfl
  have hPLn := Lib.hid (planL_len js ns)
  rw [he] at H1
  clear hA hB he v1 v2 hps
  go_enter Try.func21, Try.ntmps21
  go_wp2_with fail
  refine H1.out.mono ?_
  rintro e w1 ⟨rfl, hb1⟩
  go_wp2_with fail
  refine (H2.out _ hb1).mono ?_
  rintro e w2 ⟨ac, cc, ap, cp, rfl, hO, hb2⟩
  have hbA := below_onN hb1 hb2 hb1.size
  obtain ⟨wB, hwB⟩ : ∃ wB, w2.alloc (.cells #[.slice ac js.length cc, .slice ap ns.length cp] 64) = wB := ⟨_, rfl⟩
  have hbB : Below w2.heap.size w2 wB := by rw [← hwB]; exact (Below.refl _ _).alloc (Nat.le_refl _) _
  have p0 : wB.cell? ⟨w2.heap.size, 0, none⟩ = some (.slice ac js.length cc) := by rw [← hwB]; simp [go_sem]
  have p1 : wB.cell? ⟨w2.heap.size, 1, none⟩ = some (.slice ap ns.length cp) := by rw [← hwB]; simp [go_sem]
  have hO := hO.below hbB
  have H3 := Lib.hid (greatest_r _ _ ac ap cc cp _ _ wB hO)
  rw [hG.out] at H3
  have hb := Lib.hid (below_onN hbA hbB hbA.size)
  clear H1 H2 hb1 hb2 hbA
  go_wp2_with fail
  refine H3.out.mono ?_
  rintro e w3 ⟨g, cg, rfl, hP, hg1, hg2, hb3⟩
  have p0 := cell_below p0 hb3
  have p1 := cell_below p1 hb3
  have hO := hO.below hb3
  have hPi := hP.ints (by rw [hGL.out]; omega)
  have hb := Lib.hid (below_onN hb.out hb3 hb.out.size)
  clear H3 hwB hbB hb3
  rcases idxK_cases (fun k => (-1 : Int) == gi (grtL js ns) k) js.length with hidx | ⟨u, hu, hidx, hun⟩
  · have H4 := Lib.hid (contains_v (some ⟨g, 0, none⟩) (grtL js ns) cg (-1) w3 hPi (v := false) (by rw [hGL.out, hidx]; rfl))
    have H5 := Lib.hid (least_r _ _ ac ap cc cp _ _ w3 hO ⟨g, 0, none⟩ (grtL js ns) cg hPi hGL.out)
    rw [hPD.out] at H5
    rw [hGL.out] at H4
    have hno : Hid (∀ u, u < js.length → gi (grtL js ns) u ≠ -1) := Lib.hid fun u hu h => by
      have := idxK_none _ hidx u hu
      simp only [h] at this
      simp at this
    rw [hGL.out]
    clear hO hP hPi hidx hG
    go_wp2_with fail
    refine H4.out.mono ?_
    rintro e w4 ⟨rfl, rfl⟩
    go_wp2_with fail
    refine H5.out.mono ?_
    rintro e w5 ⟨g5, c5, rfl, h5, hg5, hg6, hb5⟩
    have hf := below_onN hb.out hb5 hb.out.size
    have hbs := hb.out.size
    have h5 := Lib.hid h5
    clear H5 H4
    go_wp2_with fail
    go_ret2
    exact .inr ⟨⟨g5, c5, by rw [hPLn.out]; rfl, h5.out, by omega, hg6⟩, hf, hno.out⟩
  · have H4 := Lib.hid (contains_v (some ⟨g, 0, none⟩) (grtL js ns) cg (-1) w3 hPi (v := true) (by rw [hGL.out, hidx]; exact decide_eq_true (by omega)))
    rw [hGL.out] at H4
    have hun : gi (grtL js ns) u = -1 := (show (-1 : Int) = gi (grtL js ns) u by simpa using hun).symm
    have hex : Hid (∃ u, u < js.length ∧ gi (grtL js ns) u = -1) := Lib.hid ⟨u, hu, hun⟩
    rw [hGL.out]
    clear hO hP hPi hidx hG hun
    go_wp2_with fail
    refine H4.out.mono ?_
    rintro e w4 ⟨rfl, rfl⟩
    go_wp2_with fail
    go_ret2
    exact .inl ⟨rfl, hb.out, hex.out⟩
/-- A job that is taken out finds a night again. -/
theorem lstK_good {C : List (List Int)} {P : List Int} {L N : Nat} (hE : ∀ i, i < L → ∀ j, j < (gr C i).length → ∃ m : Nat, gi (gr C i) j = m ∧ m < N) {p : List Int} (hp : GoodP C P L N p) (hc : ∀ i, i < L → 0 ≤ gi p i) : ∀ k, k ≤ L → GoodP C P L N (lstK C P (N + 1) k p) ∧ ∀ i, i < L → 0 ≤ gi (lstK C P (N + 1) k p) i
  | 0, _ => ⟨hp, hc⟩
  | k + 1, hk => by
    obtain ⟨hg, hn⟩ := lstK_good hE hp hc k (by omega)
    have hkl : k < (lstK C P (N + 1) k p).length := by rw [hg.len]; omega
    show GoodP C P L N (plF C P (k + 1) (N + 1) k ((lstK C P (N + 1) k p).set k (-1)) noT).2.1 ∧ _
    have hl2 : ((lstK C P (N + 1) k p).set k (-1)).length = L := by rw [List.length_set]; exact hg.len
    have hle : ∀ m : Nat, cntN ((lstK C P (N + 1) k p).set k (-1)) m ≤ cntN (lstK C P (N + 1) k p) m := fun m => by
      rw [cntN_cK, cntN_cK, List.length_set]
      have := cK_le (f := fun i => gi ((lstK C P (N + 1) k p).set k (-1)) i == (m : Int)) (g := fun i => gi (lstK C P (N + 1) k p) i == (m : Int)) (lstK C P (N + 1) k p).length fun i hi h => by
        simp only [gi_set _ k (-1) i hkl] at h
        by_cases e : i = k
        · rw [if_pos e] at h; simp at h
        · rw [if_neg e] at h; exact h
      omega
    have hg2 : GoodP C P L N ((lstK C P (N + 1) k p).set k (-1)) := ⟨hl2, fun i hi => by
      rw [gi_set _ k (-1) i hkl]
      by_cases e : i = k
      · rw [if_pos e]; exact .inl rfl
      · rw [if_neg e]; exact hg.ent i hi, fun m hm => by
      have h1 := hg.cap m hm
      have h2 := hle m
      omega⟩
    obtain ⟨m, hm, hmN, hmC⟩ : ∃ m : Nat, gi (lstK C P (N + 1) k p) k = m ∧ m < N ∧ (m : Int) ∈ gr C k := by
      rcases hg.ent k (by omega) with h | h
      · have := hn k (by omega); omega
      · exact h
    have hlt : cntN ((lstK C P (N + 1) k p).set k (-1)) m < gi P m := by
      have h1 := hg.cap m hmN
      have : cntN ((lstK C P (N + 1) k p).set k (-1)) m < cntN (lstK C P (N + 1) k p) m := by
        rw [cntN_cK, cntN_cK, List.length_set]
        have := cK_lt (f := fun i => gi ((lstK C P (N + 1) k p).set k (-1)) i == (m : Int)) (g := fun i => gi (lstK C P (N + 1) k p) i == (m : Int)) (j := k) (by
          simp only [gi_set _ k (-1) k hkl, if_pos]; exact beq_false_of_ne (by omega)) (by rw [hm]; simp) (lstK C P (N + 1) k p).length hkl fun i hi h => by
          simp only [gi_set _ k (-1) i hkl] at h
          by_cases e : i = k
          · rw [if_pos e] at h; simp at h
          · rw [if_neg e] at h; exact h
        omega
      omega
    cases e : (plF C P (k + 1) (N + 1) k ((lstK C P (N + 1) k p).set k (-1)) noT).1 with
    | false =>
      have hcm := plF_comp hE (k + 1) hk (N + 1) k _ noT (by omega) hg2 (by rw [untr_noT]; omega) e
      rcases hcm.2 m (hcm.1 m hmC) with h | ⟨m', e1, _, q, _⟩
      · cases h
      · obtain rfl : m = m' := by omega
        omega
    | true =>
      have hs := (plF_sound hE (k + 1) hk (N + 1) k _ noT (by omega) hg2).2 e
      have hnn := plF_nat hE (k + 1) hk (N + 1) k _ noT (by omega) hg2 e
      refine ⟨hs.1, fun i hi => ?_⟩
      show 0 ≤ gi (plF C P (k + 1) (N + 1) k ((lstK C P (N + 1) k p).set k (-1)) noT).2.1 i
      by_cases e2 : i = k
      · subst e2; exact hnn.1
      · rcases hnn.2 i with h | h
        · rw [h, gi_set _ k (-1) i hkl, if_neg e2]; exact hn i hi
        · exact h
end Go.Proofs.Ytghlhjiomebmhaa
