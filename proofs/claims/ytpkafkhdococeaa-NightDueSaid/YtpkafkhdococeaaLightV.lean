/-
  The walks of measuresValid, historyValid and of the reference's Measures. By an AI agent.
-/
import Derived.Test.YtpkafkhdococeaaLightG
namespace Go.Proofs.Ytpkafkhdococeaa
set_option linter.unusedVariables false
set_option linter.unusedSimpArgs false
open Go.RowKit

def meE (l : List (Int × Int)) : Nat → Int
  | 0 => -1
  | k + 1 => (gp l k).1
def mOk (l : List (Int × Int)) (j : Nat) : Prop := meE l j < (gp l j).1 ∧ (gp l j).1 ≤ 100000 ∧ 0 ≤ (gp l j).2 ∧ (gp l j).2 ≤ 100000
def MesOk (l : List (Int × Int)) : Prop := 1 ≤ l.length ∧ l.length ≤ 50 ∧ ∀ j, j < l.length → mOk l j
open Classical in
noncomputable def mesB (l : List (Int × Int)) : Bool := decide (MesOk l)
theorem mesB_t {l : List (Int × Int)} (h : MesOk l) : mesB l = true := by unfold mesB; simpa using h
theorem mesB_f {l : List (Int × Int)} (h : ¬ MesOk l) : mesB l = false := by unfold mesB; simpa using h
theorem mesB_iff {l : List (Int × Int)} : mesB l = true ↔ MesOk l := by unfold mesB; simp
theorem me_bd {l : List (Int × Int)} (k : Nat) (h : ∀ j, j < k → mOk l j) : -1 ≤ meE l k ∧ meE l k ≤ 100000 := by
  induction k with
  | zero => simp [meE]
  | succ k ih =>
    have h1 := ih (fun j hj => h j (by omega))
    have h2 := h k (by omega)
    unfold mOk at h2
    rw [meE]; omega

set_option maxRecDepth 100000 in
set_option maxHeartbeats 2000000 in
theorem measuresValid_any (a : Option Addr) (l : List (Int × Int)) (cap : Nat) (w : World) (hP : PairsS w a l) :
    Calls Try.prog 104 #[.slice a l.length cap] w fun e w' => e = .returned (.bool (mesB l)) ∧ Below w.heap.size w w' := by
  obtain ⟨hlen, hbd, blk, off, hadr, hc⟩ := hP
  by_cases hn : 1 ≤ l.length ∧ l.length ≤ 50
  · have HB := Lib.hid (btw_t (n := (l.length : Int)) (a := 1) (b := 50) (by omega) (by omega))
    obtain ⟨n0, n1⟩ := hn
    obtain rfl := hadr (fun h => by rw [h] at n0; simp at n0)
    have HC := Lib.hid hc
    have HD := Lib.hid hbd
    clear hc hbd hadr
    go_enter Try.func104, Try.ntmps104
    go_wp2_with (go_at_call 103; refine (between_any _ _ _ _).mono ?_; rintro e w' ⟨rfl, rfl⟩; rw [HB.out])
    go_loopw [3, 12] (fun x i wr => ∃ k : Nat, k ≤ l.length ∧ i = .int .i64 k ∧ x = .int .i64 (meE l k) ∧ Below w.heap.size w wr ∧ Hid (∀ j, j < k → mOk l j)) (fun _ i _ => l.length - (intOf i).toNat)
    case atStart => exact ⟨0, Nat.zero_le _, rfl, rfl, Below.refl _ _, Lib.hid fun j hj => absurd hj (Nat.not_lt_zero _)⟩
    case round =>
      obtain ⟨k, hk, rfl, rfl, hbr, HA⟩ := hrel
      obtain ⟨e0, e1⟩ := me_bd k HA.out
      have hbs := hbr.size
      by_cases hlt : k < l.length
      · obtain ⟨c0, c1⟩ := HC.out k hlt
        have c0 := cell_below c0 hbr
        have c1 := cell_below c1 hbr
        have hbl := block_lt c0
        obtain ⟨⟨x0, x1⟩, y0, y1⟩ := HD.out k hlt
        have HK : Hid (mOk l k → ∀ j, j < k + 1 → mOk l j) := Lib.hid fun h j hj => by
          by_cases ej : j = k
          · subst ej; exact h
          · exact HA.out j (by omega)
        have HN : Hid (¬ mOk l k → mesB l = false) := Lib.hid fun h => mesB_f fun g => h (g.2.2 k hlt)
        unfold mOk at HK HN
        have HM : Hid (meE l (k + 1) = (gp l k).1) := Lib.hid rfl
        generalize (gp l k).1 = x at *
        generalize (gp l k).2 = y at *
        generalize meE l k = e at *
        by_cases h1 : e < x
        · by_cases h2 : x ≤ 100000
          · by_cases h3 : 0 ≤ y ∧ y ≤ 100000
            · have HR := Lib.hid (HK.out ⟨h1, h2, h3.1, h3.2⟩)
              have HBy := Lib.hid (btw_t h3.1 h3.2)
              clear HK HN h3
              go_wp2_with (go_at_call 91; refine (coefValid_any _ _).mono ?_; rintro e w' ⟨rfl, rfl⟩; rw [HBy.out])
              go_roundw
              case rel => exact ⟨k + 1, by omega, by go_num, by rw [HM.out], hbr.alloc hbs _, HR⟩
              case measure => simp [intOf]; omega
            · have HR := Lib.hid (HN.out (fun h => h3 h.2.2))
              have HBy := Lib.hid (btw_f h3)
              clear HK HN h3
              go_wp2_with (go_at_call 91; refine (coefValid_any _ _).mono ?_; rintro e w' ⟨rfl, rfl⟩; rw [HBy.out])
              go_ret
              rw [HR.out]
              exact ⟨rfl, hbr.alloc hbs _⟩
          · have HR := Lib.hid (HN.out (fun h => h2 h.2.1))
            clear HK HN
            go_wp2_with fail
            go_ret
            rw [HR.out]
            exact ⟨rfl, hbr.alloc hbs _⟩
        · have HR := Lib.hid (HN.out (fun h => h1 h.1))
          clear HK HN
          go_wp2_with fail
          go_ret
          rw [HR.out]
          exact ⟨rfl, hbr.alloc hbs _⟩
      · have HR := Lib.hid (mesB_t ⟨n0, n1, fun j hj => HA.out j (by omega)⟩)
        obtain rfl : k = l.length := by omega
        generalize meE l l.length = e at *
        go_wp2_with fail
        go_ret
        rw [HR.out]
        exact ⟨rfl, hbr⟩
  · have HB := Lib.hid (btw_f (n := (l.length : Int)) (a := 1) (b := 50) (by omega))
    have HR := Lib.hid (mesB_f (l := l) (fun h => hn ⟨h.1, h.2.1⟩))
    clear hn hc hbd hadr
    go_enter Try.func104, Try.ntmps104
    go_wp2_with (go_at_call 103; refine (between_any _ _ _ _).mono ?_; rintro e w' ⟨rfl, rfl⟩; rw [HB.out])
    go_ret
    rw [HR.out]
    exact ⟨rfl, Below.refl _ _⟩

noncomputable def hisB (z0 z1 z2 z3 side : Int) (l : List (Int × Int)) : Bool := btw z0 0 1000 && (btw z1 0 1000 && (btw z2 0 1000 && (btw z3 0 1000 && (btw side 0 3 && mesB l))))

set_option maxRecDepth 100000 in
set_option maxHeartbeats 4000000 in
theorem historyValid_any (z0 z1 z2 z3 side : Int) (a : Option Addr) (l : List (Int × Int)) (cap : Nat) (w : World) (hP : PairsS w a l) :
    Calls Try.prog 90 #[.agg #[.int .i64 z0, .int .i64 z1, .int .i64 z2, .int .i64 z3], .int .i64 side, .slice a l.length cap] w fun e w' => e = .returned (.bool (hisB z0 z1 z2 z3 side l)) ∧ Below w.heap.size w w' := by
  have HM : Hid (∀ W, Below w.heap.size w W → Calls Try.prog 104 #[.slice a l.length cap] W fun e w' => e = .returned (.bool (mesB l)) ∧ Below W.heap.size W w') := Lib.hid fun W hW => measuresValid_any a l cap W (hP.below hW)
  clear hP
  have i0 : ∀ w, (Instr.index 60 (.agg #[.int .i64 z0, .int .i64 z1, .int .i64 z2, .int .i64 z3]) (.int .i64 0)).run Try.prog w = .ok (.int .i64 z0) w := fun _ => by kernel_rfl
  have i1 : ∀ w, (Instr.index 60 (.agg #[.int .i64 z0, .int .i64 z1, .int .i64 z2, .int .i64 z3]) (.int .i64 1)).run Try.prog w = .ok (.int .i64 z1) w := fun _ => by kernel_rfl
  have i2 : ∀ w, (Instr.index 60 (.agg #[.int .i64 z0, .int .i64 z1, .int .i64 z2, .int .i64 z3]) (.int .i64 2)).run Try.prog w = .ok (.int .i64 z2) w := fun _ => by kernel_rfl
  have i3 : ∀ w, (Instr.index 60 (.agg #[.int .i64 z0, .int .i64 z1, .int .i64 z2, .int .i64 z3]) (.int .i64 3)).run Try.prog w = .ok (.int .i64 z3) w := fun _ => by kernel_rfl
  unfold hisB
  generalize mesB l = mb at *
  by_cases h0 : btw z0 0 1000 = true
  · rw [h0]
    have H0 := Lib.hid h0
    clear h0
    by_cases h1 : btw z1 0 1000 = true
    · rw [h1]
      have H1 := Lib.hid h1
      clear h1
      by_cases h2 : btw z2 0 1000 = true
      · rw [h2]
        have H2 := Lib.hid h2
        clear h2
        by_cases h3 : btw z3 0 1000 = true
        · rw [h3]
          have H3 := Lib.hid h3
          clear h3
          by_cases h4 : btw side 0 3 = true
          · rw [h4]
            have H4 := Lib.hid h4
            clear h4
            go_enter Try.func90, Try.ntmps90
            go_wp2_with fail
            refine wp_loop_rounds 5 ?_
            iterate 5 (rw [rounds_succ]; go_wp2_with (go_at_call 103; refine (between_any _ _ _ _).mono ?_; rintro e w' ⟨rfl, rfl⟩; first | rw [H0.out] | rw [H1.out] | rw [H2.out] | rw [H3.out] | rw [H4.out]))
            refine (HM.out _ (box_below (Below.refl _ _))).mono ?_
            rintro e w1 ⟨rfl, hb1⟩
            go_wp2_with fail
            go_ret
            exact ⟨by simp, box_below hb1⟩
          · have h4 : btw side 0 3 = false := by simpa using h4
            rw [h4]
            have H4 := Lib.hid h4
            clear h4
            go_enter Try.func90, Try.ntmps90
            go_wp2_with fail
            refine wp_loop_rounds 5 ?_
            iterate 5 (rw [rounds_succ]; go_wp2_with (go_at_call 103; refine (between_any _ _ _ _).mono ?_; rintro e w' ⟨rfl, rfl⟩; first | rw [H0.out] | rw [H1.out] | rw [H2.out] | rw [H3.out] | rw [H4.out]))
            go_ret
            refine ⟨rfl, ?_⟩
            go_grown
        · have h3 : btw z3 0 1000 = false := by simpa using h3
          rw [h3]
          have H3 := Lib.hid h3
          clear h3
          go_enter Try.func90, Try.ntmps90
          go_wp2_with fail
          refine wp_loop_rounds 4 ?_
          iterate 4 (rw [rounds_succ]; go_wp2_with (go_at_call 103; refine (between_any _ _ _ _).mono ?_; rintro e w' ⟨rfl, rfl⟩; first | rw [H0.out] | rw [H1.out] | rw [H2.out] | rw [H3.out]))
          go_ret
          refine ⟨rfl, ?_⟩
          go_grown
      · have h2 : btw z2 0 1000 = false := by simpa using h2
        rw [h2]
        have H2 := Lib.hid h2
        clear h2
        go_enter Try.func90, Try.ntmps90
        go_wp2_with fail
        refine wp_loop_rounds 3 ?_
        iterate 3 (rw [rounds_succ]; go_wp2_with (go_at_call 103; refine (between_any _ _ _ _).mono ?_; rintro e w' ⟨rfl, rfl⟩; first | rw [H0.out] | rw [H1.out] | rw [H2.out]))
        go_ret
        refine ⟨rfl, ?_⟩
        go_grown
    · have h1 : btw z1 0 1000 = false := by simpa using h1
      rw [h1]
      have H1 := Lib.hid h1
      clear h1
      go_enter Try.func90, Try.ntmps90
      go_wp2_with fail
      refine wp_loop_rounds 2 ?_
      iterate 2 (rw [rounds_succ]; go_wp2_with (go_at_call 103; refine (between_any _ _ _ _).mono ?_; rintro e w' ⟨rfl, rfl⟩; first | rw [H0.out] | rw [H1.out]))
      go_ret
      refine ⟨rfl, ?_⟩
      go_grown
  · have h0 : btw z0 0 1000 = false := by simpa using h0
    rw [h0]
    have H0 := Lib.hid h0
    clear h0
    go_enter Try.func90, Try.ntmps90
    go_wp2_with fail
    refine wp_loop_rounds 1 ?_
    iterate 1 (rw [rounds_succ]; go_wp2_with (go_at_call 103; refine (between_any _ _ _ _).mono ?_; rintro e w' ⟨rfl, rfl⟩; first | rw [H0.out]))
    go_ret
    refine ⟨rfl, ?_⟩
    go_grown
end Go.Proofs.Ytpkafkhdococeaa
