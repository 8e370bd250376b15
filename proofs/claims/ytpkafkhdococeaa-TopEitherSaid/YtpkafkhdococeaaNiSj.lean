/-
  Shortage of package night: what it returns. By an AI agent.
-/
import Derived.Test.YtpkafkhdococeaaNiSi
import Derived.Deep.RegionHeld3
import Derived.BigQuiet
import Derived.Carry
namespace Go.Proofs.Ytpkafkhdococeaa
set_option linter.unusedVariables false
set_option linter.unusedSimpArgs false
open Go.RowKit

set_option maxRecDepth 100000 in
set_option maxHeartbeats 2000000 in
theorem shortage_bad (a : Option Addr) (js : List Jo) (ca : Nat) (b : Option Addr) (ns : List Ni) (cb : Nat) (w : World) (hA : JobsS w a js) (hB : NightsS w b ns) (he : errL js ns ≠ 0) :
    Calls Try.prog 32 #[.slice a js.length ca, .slice b ns.length cb] w fun e w' => e = .returned (.tuple #[.slice none 0 0, .bool false, .int .i64 (errL js ns)]) ∧ Below w.heap.size w w' := by
  have H1 := Lib.hid (listsError_r a js ca b ns cb w hA hB)
  clear hA hB
  generalize errL js ns = E at *
  have hE : (E == 0) = false := beq_false_of_ne he
  clear he
  go_enter Try.func32, Try.ntmps32
  go_wp2_with fail
  refine H1.out.mono ?_
  rintro e w1 ⟨rfl, hb1⟩
  go_wp2_with fail
  go_ret3
  exact ⟨rfl, hb1⟩
theorem idxK_none {p : Nat → Bool} : ∀ n, idxK p n = -1 → ∀ k, k < n → p k = false
  | 0, _, k, hk => by omega
  | n + 1, h, k, hk => by
    unfold idxK at h
    by_cases e : idxK p n = -1
    · rw [if_pos e] at h
      by_cases e2 : k = n
      · subst e2
        cases e3 : p k with
        | false => rfl
        | true => rw [e3, if_pos rfl] at h; omega
      · exact idxK_none n e k (by omega)
    · rw [if_neg e] at h; exact absurd h e
/-- Nothing, or a shortage, comes back. -/
def ShE (js : List Jo) (ns : List Ni) (w : World) (e : Ending) (w' : World) : Prop :=
  (e = .returned (.tuple #[.slice none 0 0, .bool false, .int .i64 0]) ∧ Below w.heap.size w w' ∧ ∀ u, u < js.length → gi (grtL js ns) u ≠ -1) ∨
  ∃ (S : List Int) (a : Option Addr) (c : Nat), e = .returned (.tuple #[.slice a S.length c, .bool true, .int .i64 0]) ∧ IntsC w' a S ∧ isB js ns S = true ∧ Below w.heap.size w w' ∧ ∃ u, u < js.length ∧ gi (grtL js ns) u = -1
set_option maxRecDepth 100000 in
set_option maxHeartbeats 4000000 in
theorem shortage_ok (a : Option Addr) (js : List Jo) (ca : Nat) (b : Option Addr) (ns : List Ni) (cb : Nat) (w : World) (hA : JobsS w a js) (hB : NightsS w b ns) (he : errL js ns = 0) :
    Calls Try.prog 32 #[.slice a js.length ca, .slice b ns.length cb] w fun e w' => ShE js ns w e w' := by
  obtain ⟨v1, v2⟩ := errL_ok he
  have hj := jobsB_len v1
  have hn := nightsB_len v2
  have hps : ∀ i, i < ns.length → 0 ≤ (gn ns i).p ∧ (gn ns i).p ≤ 100 := fun i hi => nightB_p (nightsB_ok v2 hi)
  have H1 := Lib.hid (listsError_r a js ca b ns cb w hA hB)
  have H2 := Lib.hid (fun W (hW : Below w.heap.size w W) => offerOf_r a js ca b ns cb W (hA.below hW) (hB.below hW) (by omega) (by omega) (fun i hi => by have := hps i hi; exact ⟨by omega, by omega⟩))
  have hGL := Lib.hid (grtL_len js ns)
  have hG : Hid (grtK (chL js ns) (psL ns) (ns.length + 1) js.length (List.replicate js.length (-1)) = grtL js ns) := Lib.hid rfl
  have hgood := grtL_good (js := js) (ns := ns) (fun i hi => (hps i hi).1)
  have hE : ∀ i, i < js.length → ∀ j, j < (gr (chL js ns) i).length → ∃ m : Nat, gi (gr (chL js ns) i) j = m ∧ m < ns.length := fun i hi j hj => by
    rw [gr_chL js ns hi] at hj ⊢
    obtain ⟨m, h1, h2, _⟩ := selK_gi _ _ hj
    exact ⟨m, h1, h2⟩
  have HFail : Hid (∀ u, u < js.length → gi (grtL js ns) u = -1 → (plF (chL js ns) (psL ns) 0 (ns.length + 1) u (grtL js ns) noT).1 = false) := Lib.hid fun u hu hn => grt_final hE (good_none (fun m hm => by rw [gi_psL ns hm]; exact (hps m hm).1)) hu hn
  have HSame : Hid (∀ u, u < js.length → (plF (chL js ns) (psL ns) 0 (ns.length + 1) u (grtL js ns) noT).1 = false → (plF (chL js ns) (psL ns) 0 (ns.length + 1) u (grtL js ns) noT).2.1 = grtL js ns) := Lib.hid fun u hu h => (plF_sound hE 0 (Nat.zero_le _) (ns.length + 1) u (grtL js ns) noT hu hgood).1 h
  have HIs : Hid (∀ u, u < js.length → gi (grtL js ns) u = -1 → (plF (chL js ns) (psL ns) 0 (ns.length + 1) u (grtL js ns) noT).1 = false → isB js ns (selK (fun k => (k == u) || (plF (chL js ns) (psL ns) 0 (ns.length + 1) u (grtL js ns) noT).2.2 (gi (grtL js ns) k)) js.length) = true) := Lib.hid fun u hu hn hf => by
    obtain ⟨c1, c2⟩ := closed_of hE hu hgood hf
    have h := shr_ok (u := u) hgood (fun i hi => (hps i hi).1) hu hn c1 c2
    unfold shrL at h
    rw [hgood.len] at h
    unfold isB
    rw [h.1, decide_eq_true h.2]; rfl
  have HEnt : Hid (∀ i, i < js.length → -1 ≤ gi (grtL js ns) i ∧ gi (grtL js ns) i ≤ 1000) := Lib.hid fun i hi => by
    rcases hgood.ent i hi with h | ⟨m, h, h2, _⟩ <;> omega
  rw [he] at H1
  clear hA hB he v1 v2 hgood hE hps
  go_enter Try.func32, Try.ntmps32
  go_wp2_with fail
  refine H1.out.mono ?_
  rintro e w1 ⟨rfl, hb1⟩
  go_wp2_with fail
  refine (H2.out _ hb1).mono ?_
  rintro e w2 ⟨ac, cc, ap, cp, rfl, hO, hb2⟩
  have hbA := below_onN hb1 hb2 hb1.size
  obtain ⟨wB, hwB⟩ : ∃ wB, w2.alloc (.cells #[.slice ac js.length cc, .slice ap ns.length cp] 83) = wB := ⟨_, rfl⟩
  have hbB : Below w2.heap.size w2 wB := by rw [← hwB]; exact (Below.refl _ _).alloc (Nat.le_refl _) _
  have p0 : wB.cell? ⟨w2.heap.size, 0, none⟩ = some (.slice ac js.length cc) := by rw [← hwB]; simp [go_sem]
  have p1 : wB.cell? ⟨w2.heap.size, 1, none⟩ = some (.slice ap ns.length cp) := by rw [← hwB]; simp [go_sem]
  have hO := hO.below hbB
  have H3 := Lib.hid (greatest_r _ _ ac ap cc cp _ _ wB hO)
  rw [hG.out] at H3
  have hb := Lib.hid (below_onN hbA hbB hbA.size)
  clear H1 H2 hb1 hb2 hbA
  go_wp2_with fail
  refine H3.out.mono ?_
  rintro e w3 ⟨g, cg, rfl, hP, hg1, hg2, hb3⟩
  have hzB := block_lt p0
  have p0 := cell_below p0 hb3
  have p1 := cell_below p1 hb3
  have hO := Lib.hid hO
  rw [hGL.out]
  clear H3
  obtain ⟨wC, hwC⟩ : ∃ wC, w3.alloc (.cells #[.slice (some ⟨g, 0, none⟩) js.length cg] 26) = wC := ⟨_, rfl⟩
  have hbC : Below w3.heap.size w3 wC := by rw [← hwC]; exact (Below.refl _ _).alloc (Nat.le_refl _) _
  have q0 : wC.cell? ⟨w3.heap.size, 0, none⟩ = some (.slice (some ⟨g, 0, none⟩) js.length cg) := by rw [← hwC]; simp [go_sem]
  have p0 := cell_below p0 hbC
  have p1 := cell_below p1 hbC
  have hPC := hP.same (hbC.block g hg2)
  have H4 := Lib.hid (index_v (some ⟨g, 0, none⟩) (grtL js ns) cg (-1) wC (hPC.ints (by rw [hGL.out]; omega)))
  rw [hGL.out] at H4
  have hbx := below_onN hb3 hbC hb3.size
  have hzC : w3.heap.size < wC.heap.size := block_lt q0
  have hb3s := hb3.size
  clear hbC hP hb3 hwB
  go_wp2_with fail
  refine H4.out.mono ?_
  rintro e w4 ⟨rfl, rfl⟩
  rcases idxK_cases (fun k => (-1 : Int) == gi (grtL js ns) k) js.length with hidx | ⟨u, hu, hidx, hun⟩
  · have hno : Hid (∀ u, u < js.length → gi (grtL js ns) u ≠ -1) := Lib.hid fun u hu h => by
      have := idxK_none _ hidx u hu
      simp only [h] at this
      simp at this
    rw [hidx]
    have hfin := below_onN hb.out hbx hb.out.size
    clear H4 hO hPC HFail HSame HIs HEnt hbx hwC
    go_wp2_with fail
    go_ret3
    exact .inl ⟨rfl, hfin.alloc hfin.size _, hno.out⟩
  · rw [hidx]
    have hun : gi (grtL js ns) u = -1 := (show (-1 : Int) = gi (grtL js ns) u by simpa using hun).symm
    have hex : Hid (∃ u, u < js.length ∧ gi (grtL js ns) u = -1) := Lib.hid ⟨u, hu, hun⟩
    have hF := HFail.out u hu hun
    have hS := HSame.out u hu hF
    have hI := Lib.hid (HIs.out u hu hun hF)
    obtain ⟨wD, hwD⟩ : ∃ wD, w4.alloc (.cells #[.int .i64 u] 3) = wD := ⟨_, rfl⟩
    have hbD : Below w4.heap.size w4 wD := by rw [← hwD]; exact (Below.refl _ _).alloc (Nat.le_refl _) _
    have u0 : wD.cell? ⟨w4.heap.size, 0, none⟩ = some (.int .i64 u) := by rw [← hwD]; simp [go_sem]
    have q0 := cell_below q0 hbD
    have p0 := cell_below p0 hbD
    have p1 := cell_below p1 hbD
    have hzD : w4.heap.size < wD.heap.size := block_lt u0
    obtain ⟨wE, hwE⟩ : ∃ wE, (wD.alloc (.map #[] 0)).alloc (.cells #[.map (some wD.heap.size)] 92) = wE := ⟨_, rfl⟩
    have hbE : Below wD.heap.size wD wE := by rw [← hwE]; exact ((Below.refl _ _).alloc (Nat.le_refl _) _).alloc (by simp) _
    have m0 : wE.cell? ⟨wD.heap.size + 1, 0, none⟩ = some (.map (some wD.heap.size)) := by rw [← hwE]; simp [go_sem]
    have hM : MB wE wD.heap.size 0 noT := by rw [← hwE]; exact (MapB.made _ _ _ wD).alloc _
    have q0 := cell_below q0 hbE
    have u0 := cell_below u0 hbE
    have p0 := cell_below p0 hbE
    have p1 := cell_below p1 hbE
    have hzE : wD.heap.size + 1 < wE.heap.size := block_lt m0
    have hbDE := below_onN hbD hbE hbD.size
    have hbW : Below wB.heap.size wB wE := below_onN hbx hbDE hbx.size
    have hPE : PlanR wE g (grtL js ns) := hPC.same (hbDE.block g (by omega))
    have hmm := @run_makeMap Try.prog
    have HPl := Lib.hid (place_all (ns.length + 1) wB wE (chL js ns) (psL ns) ac ap cc cp js.length ns.length g wD.heap.size 0 cg (grtL js ns) noT 0 u
      ⟨hO.out.rows, hO.out.ints, hbW, hg1, by have := hbx.size; omega, by omega, by omega, hO.out.cl, hO.out.pn, hGL.out, hPE, hM, by rw [untr_noT]; omega, by rw [untr_noT]; omega, hO.out.small, hO.out.smallN, hO.out.ent⟩ hu (Nat.zero_le _))
    clear hF hO hM hPC hPE HFail HSame HIs H4 hbD hbE
    generalize hr : plF (chL js ns) (psL ns) 0 (ns.length + 1) u (grtL js ns) noT = r at *
    obtain ⟨rb, rp, T⟩ := r
    have hS : rp = grtL js ns := hS
    subst hS
    clear hr
    have hfin := Lib.hid (below_onN hb.out hbW hb.out.size)
    have hne1 : w3.heap.size ≠ g ∧ w3.heap.size ≠ wD.heap.size ∧ w4.heap.size ≠ g ∧ w4.heap.size ≠ wD.heap.size ∧ wD.heap.size + 1 ≠ g ∧ wD.heap.size + 1 ≠ wD.heap.size ∧ g < wE.heap.size ∧ wD.heap.size < wE.heap.size := ⟨by omega, by omega, by omega, by omega, by omega, by omega, by omega, by omega⟩
    obtain ⟨k1, k2, k3, k4, k5, k6, k7, k8⟩ := hne1
    have hbs := hb.out.size
    have hwBs : w.heap.size ≤ g ∧ w.heap.size ≤ wD.heap.size ∧ w.heap.size ≤ wE.heap.size := ⟨by omega, by omega, by omega⟩
    obtain ⟨z1, z2, z3⟩ := hwBs
    go_wp2_with fail
    refine HPl.out.mono ?_
    rintro e w5 ⟨rfl, h5, ⟨n5, h6, -⟩, h8⟩
    have q0 := h8.cell q0 k1 k2
    have u0 := h8.cell u0 k3 k4
    have m0 := h8.cell m0 k5 k6
    have h5 : PlanR w5 g (grtL js ns) := h5
    have h6 : MB w5 wD.heap.size n5 T := h6
    have hg5 : g < w5.heap.size := Nat.lt_of_lt_of_le k7 h8.size
    have hm5 := h6.lt
    have hfin5 := Lib.hid (hfin.out.trans (h8.below z1 z2 z3))
    have HIx := Lib.hid (indexes_sh js.length (by omega) #[.pointer (some ⟨w4.heap.size, 0, none⟩), .pointer (some ⟨wD.heap.size + 1, 0, none⟩), .pointer (some ⟨w3.heap.size, 0, none⟩)] (fun k => (k == u) || T (gi (grtL js ns) k)) w5 (fun k W hk hW =>
      sh1_r u g cg wD.heap.size n5 w4.heap.size (wD.heap.size + 1) w3.heap.size k js.length (grtL js ns) T hGL.out hk W (cell_below u0 hW) (cell_below m0 hW) (cell_below q0 hW) (h5.same (hW.block g hg5)) (h6.below hm5 hW) (HEnt.out k hk).1 (HEnt.out k hk).2))
    have hI : Hid (isB js ns (selK (fun k => (k == u) || T (gi (grtL js ns) k)) js.length) = true) := hI
    have HX : Hid (∀ (W : World) (aX : Option Addr) (cX : Nat), W.ownsRow w5.heap.size 3 1 (.slice aX (selK (fun k => (k == u) || T (gi (grtL js ns) k)) js.length).length cX) (selK (fun k => (k == u) || T (gi (grtL js ns) k)) js.length).length (clI (selK (fun k => (k == u) || T (gi (grtL js ns) k)) js.length)) → IntsC W aX (selK (fun k => (k == u) || T (gi (grtL js ns) k)) js.length)) := Lib.hid fun W aX cX h => by
      have hl := selK_len (fun k => (k == u) || T (gi (grtL js ns) k)) js.length
      have := ints_own h (by omega) (fun j hj => by obtain ⟨m, e, hm, _⟩ := selK_gi _ _ hj; rw [e]; exact ⟨by omega, by omega⟩)
      exact ⟨this.1, this.2.2⟩
    clear h5 h6 h8 HPl
    generalize selK (fun k => (k == u) || T (gi (grtL js ns) k)) js.length = S at *
    go_wp2_with fail
    refine HIx.out.mono ?_
    rintro e w6 ⟨aX, cX, rfl, hrow, hb6⟩
    have hXI := Lib.hid (HX.out w6 aX cX hrow)
    clear hrow HX
    go_wp2_with fail
    go_ret3
    exact .inr ⟨S, aX, cX, rfl, hXI.out, hI.out, below_onN hfin5.out hb6 hfin5.out.size, hex.out⟩
end Go.Proofs.Ytpkafkhdococeaa
