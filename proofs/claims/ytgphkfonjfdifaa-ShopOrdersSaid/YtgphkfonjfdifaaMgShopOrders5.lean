/-
  The walk of the reference's at. By an AI agent.; The walks of long, and of the reference's within, step and Valid. By an AI agent.; The walk of the reference's Valid, the way past its lengths. By an AI agent.; The walk of the reference's Valid, whole. By an AI agent.
-/
import Derived.Test.YtgphkfonjfdifaaMgShopOrders2
import Derived.Test.YtgphkfonjfdifaaMgShopOrders4
import Derived.Deep.RegionHeld3
import Derived.StillTailTactics

namespace Go.Proofs.Ytgphkfonjfdifaa
set_option linter.unusedVariables false
set_option linter.unusedSimpArgs false
open Go.RowKit

set_option maxRecDepth 100000 in
set_option maxHeartbeats 4000000 in
theorem at_sh (s : Sh) (i k : Nat) (w : World) (hI : ShS w s) (hV : ShOk s) (hi : i < s.J.length) (hk : k < (gj s.J i).length) :
    Calls Try.prog 49 #[.agg #[.int .i64 s.O, .int .i64 s.C, .slice s.aH s.H.length s.cH, .int .i64 s.M, .slice s.aS s.S.length s.cS, .slice s.aJ s.J.length s.cJ], .agg #[.int .i64 i, .int .i64 k]] w fun e w' => e = .returned (.agg #[.int .i64 (gs (gj s.J i) k).1, .int .i64 (gs (gj s.J i) k).2.1, .int .i64 (gs (gj s.J i) k).2.2.1, .int .i64 (gs (gj s.J i) k).2.2.2]) ∧ Below w.heap.size w w' := by
  have h12 := hV.2.2.2.1
  have h8 := (hV.2.2.2.2 i hi).1
  obtain ⟨hlJ, blk, off, ad, cp, hadr, hc⟩ := hI.2.2
  have c0 := (hc i hi).1
  have HA := Lib.hid (hadr (fun e => by rw [e] at hi; simp at hi))
  obtain ⟨hln, hbd, b1, f1, hadr1, hc1⟩ := (hc i hi).2.1
  obtain ⟨d0, d1, d2, d3⟩ := hc1 k hk
  have hal := hadr1 (fun e => by rw [e] at hk; simp at hk)
  have hB := ShBox.start w s 25
  have hi0 : (i : Int) < s.J.length := by omega
  have hk0 : (k : Int) < (gj s.J i).length := by omega
  clear hI hV hadr hc hbd hadr1 hc1
  generalize (gs (gj s.J i) k).1 = x0 at *
  generalize (gs (gj s.J i) k).2.1 = x1 at *
  generalize (gs (gj s.J i) k).2.2.1 = x2 at *
  generalize (gs (gj s.J i) k).2.2.2 = x3 at *
  generalize (gj s.J i).length = n at *
  generalize ad i = al at *
  subst hal
  generalize cp i = cl at *
  go_enter Try.func49, Try.ntmps49
  go_wp2_with fail
  obtain ⟨wB, hwB⟩ : ∃ wB, ((w.alloc (.cells #[.int .i64 s.O, .int .i64 s.C, .slice s.aH s.H.length s.cH, .int .i64 s.M, .slice s.aS s.S.length s.cS, .slice s.aJ s.J.length s.cJ] 25)).alloc (.cells #[.int .i64 i, .int .i64 k] 76)).alloc (.cells #[.int .i64 0, .int .i64 0, .int .i64 0, .int .i64 0] 57) = wB := ⟨_, rfl⟩
  have hb0 : Below (w.alloc (.cells #[.int .i64 s.O, .int .i64 s.C, .slice s.aH s.H.length s.cH, .int .i64 s.M, .slice s.aS s.S.length s.cS, .slice s.aJ s.J.length s.cJ] 25)).heap.size (w.alloc (.cells #[.int .i64 s.O, .int .i64 s.C, .slice s.aH s.H.length s.cH, .int .i64 s.M, .slice s.aS s.S.length s.cS, .slice s.aJ s.J.length s.cJ] 25)) wB := by rw [← hwB]; exact ((Below.refl _ _).alloc (Nat.le_refl _) _).alloc (by simp) _
  have q0 : wB.cell? ⟨w.heap.size + 1, 0, none⟩ = some (.int .i64 i) := by rw [← hwB]; simp [go_sem]
  have q1 : wB.cell? ⟨w.heap.size + 1, 1, none⟩ = some (.int .i64 k) := by rw [← hwB]; simp [go_sem]
  have r0 : wB.cell? ⟨w.heap.size + 2, 0, none⟩ = some (.int .i64 0) := by rw [← hwB]; simp [go_sem]
  have r1 : wB.cell? ⟨w.heap.size + 2, 1, none⟩ = some (.int .i64 0) := by rw [← hwB]; simp [go_sem]
  have r2 : wB.cell? ⟨w.heap.size + 2, 2, none⟩ = some (.int .i64 0) := by rw [← hwB]; simp [go_sem]
  have r3 : wB.cell? ⟨w.heap.size + 2, 3, none⟩ = some (.int .i64 0) := by rw [← hwB]; simp [go_sem]
  have u0 : wB.frozen? ⟨w.heap.size + 2, 0, none⟩ = false := by rw [← hwB]; simp [go_sem]
  have u1 : wB.frozen? ⟨w.heap.size + 2, 1, none⟩ = false := by rw [← hwB]; simp [go_sem]
  have u2 : wB.frozen? ⟨w.heap.size + 2, 2, none⟩ = false := by rw [← hwB]; simp [go_sem]
  have u3 : wB.frozen? ⟨w.heap.size + 2, 3, none⟩ = false := by rw [← hwB]; simp [go_sem]
  have hBB := hB.on hb0
  rw [hwB]
  clear hwB hb0 hB
  obtain ⟨hb, p0, p1, p2, p3, p4, p5⟩ := hBB
  have c0 := cell_below c0 hb
  have d0 := cell_below d0 hb
  have d1 := cell_below d1 hb
  have d2 := cell_below d2 hb
  have d3 := cell_below d3 hb
  rw [HA.out] at p5
  have z := block_lt r0
  clear HA
  go_still_tail 11, (by kernel_rfl)
  change wpList _ _ _ _ _ wB.drew
  have r0' : wB.drew.cell? ⟨w.heap.size + 2, 0, none⟩ = some (.int .i64 0) := r0
  have r1' : wB.drew.cell? ⟨w.heap.size + 2, 1, none⟩ = some (.int .i64 0) := r1
  have r2' : wB.drew.cell? ⟨w.heap.size + 2, 2, none⟩ = some (.int .i64 0) := r2
  have r3' : wB.drew.cell? ⟨w.heap.size + 2, 3, none⟩ = some (.int .i64 0) := r3
  have u0' : wB.drew.frozen? ⟨w.heap.size + 2, 0, none⟩ = false := u0
  have u1' : wB.drew.frozen? ⟨w.heap.size + 2, 1, none⟩ = false := u1
  have u2' : wB.drew.frozen? ⟨w.heap.size + 2, 2, none⟩ = false := u2
  have u3' : wB.drew.frozen? ⟨w.heap.size + 2, 3, none⟩ = false := u3
  have hb' : Below w.heap.size w wB.drew := hb.drew
  have z' : w.heap.size + 2 < wB.drew.heap.size := z
  generalize wB.drew = w2 at *
  clear r0 r1 r2 r3 u0 u1 u2 u3 hb z p0 p1 p2 p3 p4 p5 c0 d0 d1 d2 d3 q0 q1
  go_wp2_with fail
  refine bodyPost_ret (v := .agg #[.int .i64 x0, .int .i64 x1, .int .i64 x2, .int .i64 x3]) (by simp [results, Try.results49, go_sem, r0', r1', r2', r3', z']) rfl ⟨rfl, ?_⟩
  repeat (refine Below.setCell ?_ (by first | (simp; omega) | simp) _)
  exact hb'

/-- The minutes of a step, if it is on the machine. -/
def minP (J : List (List Stp)) (m : Int) (p : Int × Int) : Int := if (gs (gj J p.1.toNat) p.2.toNat).1 = m then (gs (gj J p.1.toNat) p.2.toNat).2.1 else 0
def sumP (J : List (List Stp)) (m : Int) : List (Int × Int) → Int
  | [] => 0
  | p :: t => minP J m p + sumP J m t
end Go.Proofs.Ytgphkfonjfdifaa

namespace Go.Proofs.Ytgphkfonjfdifaa
set_option linter.unusedVariables false
set_option linter.unusedSimpArgs false
open Go.RowKit

/-- A bool is returned. -/
def SomeB (e : Ending) : Prop := ∃ b : Bool, e = .returned (.bool b)

set_option maxRecDepth 100000 in
set_option maxHeartbeats 1000000 in
theorem long_sh (s : Sh) (w : World) (hI : ShS w s) :
    Calls Try.prog 11 #[.agg #[.int .i64 s.O, .int .i64 s.C, .slice s.aH s.H.length s.cH, .int .i64 s.M, .slice s.aS s.S.length s.cS, .slice s.aJ s.J.length s.cJ]] w fun e w' => SomeB e ∧ Below w.heap.size w w' := by
  have hlH := hI.1.1
  have hlS := hI.2.1.1
  obtain ⟨hlJ, blk, off, ad, cp, hadr, hc⟩ := hI.2.2
  have HC : Hid (∀ k, k < s.J.length → w.cell? ⟨blk, off + k, none⟩ = some (.slice (ad k) (gj s.J k).length (cp k)) ∧ (gj s.J k).length ≤ 9223372036854775807) := Lib.hid fun k hk => ⟨(hc k hk).1, (hc k hk).2.1.1⟩
  have HL : Hid (0 < s.J.length → s.aJ = some ⟨blk, off, none⟩) := Lib.hid fun h => hadr (fun e => by rw [e] at h; simp at h)
  have hB := ShBox.start w s 25
  clear hI hc hadr
  go_enter Try.func11, Try.ntmps11
  go_wp2_with fail
  all_goals first
    | (go_ret; exact ⟨⟨_, rfl⟩, hB.1⟩)
    | skip
  obtain ⟨wB, hwB⟩ : ∃ wB, w.alloc (.cells #[.int .i64 s.O, .int .i64 s.C, .slice s.aH s.H.length s.cH, .int .i64 s.M, .slice s.aS s.S.length s.cS, .slice s.aJ s.J.length s.cJ] 25) = wB := ⟨_, rfl⟩
  rw [hwB] at hB ⊢
  clear hwB
  go_loopw [3] (fun i wr => ∃ k : Nat, k ≤ s.J.length ∧ i = .int .i64 k ∧ ShBox w wr s) (fun i _ => s.J.length - (intOf i).toNat)
  case atStart => exact ⟨0, Nat.zero_le _, rfl, hB⟩
  case round =>
    clear hB
    obtain ⟨k, hk, rfl, hB1⟩ := hrel
    have HB := Lib.hid hB1
    obtain ⟨hb, p0, p1, p2, p3, p4, p5⟩ := hB1
    by_cases hlt : k < s.J.length
    · have ha := HL.out (by omega)
      obtain ⟨c0, hln⟩ := HC.out k hlt
      have c0 := cell_below c0 hb
      have n3 : (k : Int) < s.J.length := by omega
      rw [ha] at p5
      clear ha HC HL
      generalize (gj s.J k).length = n at *
      by_cases hn : 20 < n
      · have hn' : (20 : Int) < n := by omega
        go_wp2_with fail
        go_ret
        exact ⟨⟨_, rfl⟩, hb⟩
      · have hn' : ¬ (20 : Int) < n := by omega
        go_wp2_with fail
        go_roundw
        case rel => exact ⟨k + 1, by omega, by go_num, HB.out⟩
        case measure => simp [intOf]; omega
    · obtain rfl : k = s.J.length := by omega
      clear HC HL hlt
      go_wp2_with fail
      go_ret
      exact ⟨⟨_, rfl⟩, hb⟩

theorem rin_any (n a b : Int) (w : World) :
    Calls Try.prog 31 #[.int .i64 n, .int .i64 a, .int .i64 b] w fun e w' => e = .returned (.bool (btw n a b)) ∧ w = w' := by
  by_cases h1 : a ≤ n
  · by_cases h2 : n ≤ b
    · rw [btw_t h1 h2]
      go_enter Try.func31, Try.ntmps31
      go_wp2
      go_ret
      exact ⟨rfl, rfl⟩
    · rw [btw_f (fun h => h2 h.2)]
      go_enter Try.func31, Try.ntmps31
      go_wp2
      go_ret
      exact ⟨rfl, rfl⟩
  · rw [btw_f (fun h => h1 h.1)]
    go_enter Try.func31, Try.ntmps31
    go_wp2
    go_ret
    exact ⟨rfl, rfl⟩
theorem rin_q {n a b : Int} {v : Bool} (h : btw n a b = v) (w : World) :
    Calls Try.prog 31 #[.int .i64 n, .int .i64 a, .int .i64 b] w fun e w' => e = .returned (.bool v) ∧ w' = w := (rin_any n a b w).mono fun e w' g => ⟨by rw [← h]; exact g.1, g.2.symm⟩

set_option maxRecDepth 100000 in
set_option maxHeartbeats 1000000 in
theorem step_sh (s : Sh) (x : Stp) (w : World) (o0 : 0 ≤ s.O) (o1 : s.O < s.C) (o2 : s.C ≤ 1440) (m0 : 1 ≤ s.M) (m1 : s.M ≤ 6) :
    Calls Try.prog 32 #[.agg #[.int .i64 s.O, .int .i64 s.C, .slice s.aH s.H.length s.cH, .int .i64 s.M, .slice s.aS s.S.length s.cS, .slice s.aJ s.J.length s.cJ], .agg #[.int .i64 x.1, .int .i64 x.2.1, .int .i64 x.2.2.1, .int .i64 x.2.2.2]] w fun e w' => e = .returned (.bool (stpB s.O s.C s.M x)) ∧ Below w.heap.size w w' := by
  unfold stpB
  obtain ⟨x0, x1, x2, x3⟩ := x
  dsimp only
  generalize hg0 : btw x0 0 (s.M - 1) = g0
  generalize hg1 : btw x1 1 (s.C - s.O) = g1
  generalize hg2 : btw x2 0 9 = g2
  generalize hg3 : btw x3 0 10000 = g3
  have G0 := Lib.hid hg0
  have G1 := Lib.hid hg1
  have G2 := Lib.hid hg2
  have G3 := Lib.hid hg3
  clear hg0 hg1 hg2 hg3
  go_enter Try.func32, Try.ntmps32
  go_wp2_with (go_at_call 31; refine (rin_any _ _ _ _).mono ?_; rintro e w' ⟨rfl, rfl⟩; first | rw [G0.out] | rw [G1.out] | rw [G2.out] | rw [G3.out])
  all_goals
    go_ret
    exact ⟨by first | rfl | simp_all, ((Below.refl _ _).alloc (Nat.le_refl _) _).alloc (by simp) _⟩
end Go.Proofs.Ytgphkfonjfdifaa

namespace Go.Proofs.Ytgphkfonjfdifaa
set_option linter.unusedVariables false
set_option linter.unusedSimpArgs false
open Go.RowKit

set_option maxRecDepth 100000 in
set_option maxHeartbeats 4000000 in
theorem refValid_main (s : Sh) (w : World) (hI : ShS w s) (o0 : 0 ≤ s.O) (o1 : s.O < s.C) (o2 : s.C ≤ 1440) (h4 : s.H.length ≤ 400) (m0 : 1 ≤ s.M) (m1 : s.M ≤ 6) (h6 : (s.S.length : Int) = s.M) (h7 : s.J.length ≤ 12) :
    Calls Try.prog 13 #[.agg #[.int .i64 s.O, .int .i64 s.C, .slice s.aH s.H.length s.cH, .int .i64 s.M, .slice s.aS s.S.length s.cS, .slice s.aJ s.J.length s.cJ]] w fun e w' => e = .returned (.bool (shB s)) ∧ Below w.heap.size w w' := by
  have hB := ShBox.start w s 25
  have HS := Lib.hid (fun x W => step_sh s x W o0 o1 o2 m0 m1)
  obtain ⟨⟨hlenH, hbdH, bH, oH, hadrH, hcH⟩, ⟨hlenS, hbdS, bS, oS, hadrS, hcS⟩, hJJ⟩ := hI
  obtain ⟨hlenJ, bJ, oJ, ad, cp, hadrJ, hcJ⟩ := hJJ
  have HC := Lib.hid hcH
  have HD := Lib.hid hcS
  have HE : Hid (∀ k, k < s.J.length → w.cell? ⟨bJ, oJ + k, none⟩ = some (.slice (ad k) (gj s.J k).length (cp k)) ∧ StepsS w (ad k) (gj s.J k)) := Lib.hid fun k hk => ⟨(hcJ k hk).1, (hcJ k hk).2.1⟩
  have HLH : Hid (0 < s.H.length → s.aH = some ⟨bH, oH, none⟩) := Lib.hid fun h => hadrH (fun e => by rw [e] at h; simp at h)
  have HLS : Hid (0 < s.S.length → s.aS = some ⟨bS, oS, none⟩) := Lib.hid fun h => hadrS (fun e => by rw [e] at h; simp at h)
  have HLJ : Hid (0 < s.J.length → s.aJ = some ⟨bJ, oJ, none⟩) := Lib.hid fun h => hadrJ (fun e => by rw [e] at h; simp at h)
  have HT : Hid ((∀ j, j < s.H.length → hokAt s.H j) → (∀ j, j < s.S.length → setAt s.S j) → (∀ i, i < s.J.length → jobOk s.O s.C s.M (gj s.J i)) → shB s = true) := Lib.hid fun g1 g2 g3 => shB_t ⟨⟨o0, o1, o2⟩, ⟨h4, g1⟩, ⟨⟨m0, m1⟩, h6, g2⟩, h7, g3⟩
  have HF1 : Hid (∀ j, j < s.H.length → ¬ hokAt s.H j → shB s = false) := Lib.hid fun j hj h => shB_f fun g => h (g.2.1.2 j hj)
  have HF2 : Hid (∀ j, j < s.S.length → ¬ setAt s.S j → shB s = false) := Lib.hid fun j hj h => shB_f fun g => h (g.2.2.1.2.2 j hj)
  have HF3 : Hid (∀ j, j < s.J.length → ¬ jobOk s.O s.C s.M (gj s.J j) → shB s = false) := Lib.hid fun j hj h => shB_f fun g => h (g.2.2.2.2 j hj)
  have n4 : ¬ (400 : Int) < s.H.length := by omega
  have n7 : ¬ (12 : Int) < s.J.length := by omega
  have n6 : ((s.S.length : Int) != s.M) = false := by simpa using h6
  have hS6 : s.S.length ≤ 6 := by omega
  have HM := Lib.hid (btw_t m0 m1)
  generalize shB s = R at *
  clear hcH hcS hcJ hadrH hadrS hadrJ hbdH hbdS h6
  go_enter Try.func13, Try.ntmps13
  go_wp2_with (go_at_call 31; refine (rin_any _ _ _ _).mono ?_; rintro e w' ⟨rfl, rfl⟩; rw [HM.out])
  obtain ⟨wB, hwB⟩ : ∃ wB, w.alloc (.cells #[.int .i64 s.O, .int .i64 s.C, .slice s.aH s.H.length s.cH, .int .i64 s.M, .slice s.aS s.S.length s.cS, .slice s.aJ s.J.length s.cJ] 25) = wB := ⟨_, rfl⟩
  rw [hwB] at hB ⊢
  clear hwB HM n6 n4 n7
  go_loopw [3] (fun i wr => ∃ k : Nat, k ≤ s.H.length ∧ i = .int .i64 k ∧ ShBox w wr s ∧ Hid (∀ j, j < k → hokAt s.H j)) (fun i _ => s.H.length - (intOf i).toNat)
  case atStart => exact ⟨0, Nat.zero_le _, rfl, hB, Lib.hid fun j hj => absurd hj (Nat.not_lt_zero _)⟩
  case round =>
    clear hB
    obtain ⟨k, hk, rfl, hB1, HA⟩ := hrel
    have HB := Lib.hid hB1
    obtain ⟨hb, p0, p1, p2, p3, p4, p5⟩ := hB1
    by_cases hlt : k < s.H.length
    · have ha := HLH.out (by omega)
      have c0 := cell_below (HC.out k hlt) hb
      have n9 : (k : Int) < s.H.length := by omega
      have HK : Hid (hokAt s.H k → ∀ j, j < k + 1 → hokAt s.H j) := Lib.hid fun h j hj => by
        by_cases e : j = k
        · subst e; exact h
        · exact HA.out j (by omega)
      have HFk := Lib.hid (HF1.out k hlt)
      have Q : Hid (∀ n, ShBox w (wr.drewN n) s) := Lib.hid fun n => HB.out.drewN n
      rw [ha] at p2
      by_cases g1 : 0 ≤ gi s.H k ∧ gi s.H k ≤ 10000
      · have G1 := Lib.hid (btw_t g1.1 g1.2)
        by_cases e : k = 0
        · subst e
          have HR := Lib.hid (HK.out ⟨g1.1, g1.2, .inl rfl⟩)
          have d0 : decide ((0 : Int) < 0) = false := by decide
          rw [Nat.add_zero] at c0
          clear HC HD HE HLH HLS HLJ HT HF1 HF2 HF3 HK HFk g1 ha HS
          generalize gi s.H 0 = x at *
          go_wp2_with fail
          go_quiet ((go_at_call 31; exact Calls.quiet_of_same (rin_q G1.out _)))
          go_wp2_with fail
          go_roundw
          case rel => exact ⟨1, by omega, by go_num, Q.out _, HR⟩
          case measure => simp [intOf]; omega
        · obtain ⟨n, rfl⟩ : ∃ n, k = n + 1 := ⟨k - 1, by omega⟩
          have c1 := cell_below (HC.out n (by omega)) hb
          have ws : IntKind.i64.wrap (((n + 1 : Nat) : Int) - 1) = (n : Int) := by rw [show ((n + 1 : Nat) : Int) - 1 = n by omega]; exact IntWalk.i64_in _ (by omega)
          have HN : Hid (gi s.H n < gi s.H (n + 1) → hokAt s.H (n + 1)) := Lib.hid fun h => ⟨g1.1, g1.2, .inr (by rw [Nat.add_sub_cancel]; exact h)⟩
          have HN2 : Hid (¬ gi s.H n < gi s.H (n + 1) → ¬ hokAt s.H (n + 1)) := Lib.hid fun h g => by
            rcases g.2.2 with g | g
            · omega
            · rw [Nat.add_sub_cancel] at g; exact h g
          have d0 : decide ((0 : Int) < ((n + 1 : Nat) : Int)) = true := by simp <;> omega
          have n9 : ((n + 1 : Nat) : Int) < s.H.length := by omega
          by_cases g2 : gi s.H n < gi s.H (n + 1)
          · have HR := Lib.hid (HK.out (HN.out g2))
            have d2 : decide (gi s.H (n + 1) ≤ gi s.H n) = false := by simp; omega
            clear HC HD HE HLH HLS HLJ HT HF1 HF2 HF3 HK HFk g1 ha HS HN HN2
            generalize gi s.H (n + 1) = x at *
            generalize gi s.H n = y at *
            go_wp2_with fail
            go_quiet ((go_at_call 31; exact Calls.quiet_of_same (rin_q G1.out _)))
            go_wp2_with fail
            go_roundw
            case rel => exact ⟨n + 1 + 1, by omega, by go_num, Q.out _, HR⟩
            case measure => simp [intOf]; omega
          · have HR := Lib.hid (HFk.out (HN2.out g2))
            have d2 : decide (gi s.H (n + 1) ≤ gi s.H n) = true := by simp; omega
            clear HC HD HE HLH HLS HLJ HT HF1 HF2 HF3 HK HFk g1 ha HS HN HN2
            generalize gi s.H (n + 1) = x at *
            generalize gi s.H n = y at *
            go_wp2_with fail
            go_quiet ((go_at_call 31; exact Calls.quiet_of_same (rin_q G1.out _)))
            go_wp2_with fail
            go_ret
            rw [HR.out]
            exact ⟨rfl, below_drewN hb _⟩
      · have G1 := Lib.hid (btw_f g1)
        have HR := Lib.hid (HFk.out fun h => g1 ⟨h.1, h.2.1⟩)
        clear HC HD HE HLH HLS HLJ HT HF1 HF2 HF3 HK HFk g1 ha HS
        generalize gi s.H k = x at *
        go_wp2_with fail
        go_quiet ((go_at_call 31; exact Calls.quiet_of_same (rin_q G1.out _)))
        go_wp2_with fail
        go_ret
        rw [HR.out]
        exact ⟨rfl, below_drewN hb _⟩
    · obtain rfl : k = s.H.length := by omega
      have HT := Lib.hid (HT.out HA.out)
      clear HA HC HF1 HLH hlt hk
      go_wp2_with fail
      clear hb p0 p1 p2 p3 p4 p5
      go_loopw [4] (fun i wr => ∃ k : Nat, k ≤ s.S.length ∧ i = .int .i64 k ∧ ShBox w wr s ∧ Hid (∀ j, j < k → setAt s.S j)) (fun i _ => s.S.length - (intOf i).toNat)
      case atStart => exact ⟨0, Nat.zero_le _, rfl, HB.out, Lib.hid fun j hj => absurd hj (Nat.not_lt_zero _)⟩
      case round =>
        clear HB
        obtain ⟨k, hk, rfl, hB1, HA⟩ := hrel
        have HB := Lib.hid hB1
        obtain ⟨hb, p0, p1, p2, p3, p4, p5⟩ := hB1
        by_cases hlt : k < s.S.length
        · have ha := HLS.out (by omega)
          have c0 := cell_below (HD.out k hlt) hb
          have n9 : (k : Int) < s.S.length := by omega
          have HK : Hid (setAt s.S k → ∀ j, j < k + 1 → setAt s.S j) := Lib.hid fun h j hj => by
            by_cases e : j = k
            · subst e; exact h
            · exact HA.out j (by omega)
          have HFk := Lib.hid (HF2.out k hlt)
          rw [ha] at p4
          by_cases g1 : 0 ≤ gi s.S k ∧ gi s.S k ≤ 1000
          · have G1 := Lib.hid (btw_t g1.1 g1.2)
            have HR := Lib.hid (HK.out g1)
            clear HD HE HLS HLJ HT HF2 HF3 HK HFk g1 ha HS
            generalize gi s.S k = x at *
            go_wp2_with (go_at_call 31; refine (rin_any _ _ _ _).mono ?_; rintro e w' ⟨rfl, rfl⟩; rw [G1.out])
            go_roundw
            case rel => exact ⟨k + 1, by omega, by go_num, HB.out, HR⟩
            case measure => simp [intOf]; omega
          · have G1 := Lib.hid (btw_f g1)
            have HR := Lib.hid (HFk.out fun h => g1 h)
            clear HD HE HLS HLJ HT HF2 HF3 HK HFk g1 ha HS
            generalize gi s.S k = x at *
            go_wp2_with (go_at_call 31; refine (rin_any _ _ _ _).mono ?_; rintro e w' ⟨rfl, rfl⟩; rw [G1.out])
            go_ret
            rw [HR.out]
            exact ⟨rfl, hb⟩
        · obtain rfl : k = s.S.length := by omega
          have HT := Lib.hid (HT.out HA.out)
          clear HA HD HF2 HLS hlt hk
          go_wp2_with fail
          clear hb p0 p1 p2 p3 p4 p5
          go_loopw [5] (fun i wr => ∃ k : Nat, k ≤ s.J.length ∧ i = .int .i64 k ∧ ShBox w wr s ∧ Hid (∀ j, j < k → jobOk s.O s.C s.M (gj s.J j))) (fun i _ => s.J.length - (intOf i).toNat)
          case atStart => exact ⟨0, Nat.zero_le _, rfl, HB.out, Lib.hid fun j hj => absurd hj (Nat.not_lt_zero _)⟩
          case round =>
            clear HB
            obtain ⟨k, hk, rfl, hB1, HA⟩ := hrel
            have HB := Lib.hid hB1
            obtain ⟨hb, p0, p1, p2, p3, p4, p5⟩ := hB1
            by_cases hlt : k < s.J.length
            · have ha := HLJ.out (by omega)
              obtain ⟨c0, hI1⟩ := HE.out k hlt
              have c0 := cell_below c0 hb
              obtain ⟨hln, hbd, b1, f1, hadr1, hc1⟩ := hI1.below hb
              have n9 : (k : Int) < s.J.length := by omega
              have HK : Hid (jobOk s.O s.C s.M (gj s.J k) → ∀ j, j < k + 1 → jobOk s.O s.C s.M (gj s.J j)) := Lib.hid fun h j hj => by
                by_cases e : j = k
                · subst e; exact h
                · exact HA.out j (by omega)
              have HFk := Lib.hid (HF3.out k hlt)
              have HC1 := Lib.hid hc1
              have HL1 : Hid (0 < (gj s.J k).length → ad k = some ⟨b1, f1, none⟩) := Lib.hid fun h => hadr1 (fun e => by rw [e] at h; simp at h)
              rw [ha] at p5
              clear HE HLJ HT HF3 ha hbd hc1 hadr1 hI1
              generalize gj s.J k = l at *
              generalize ad k = al at *
              generalize cp k = cl at *
              by_cases g8 : l.length ≤ 8
              · have n8 : ¬ (8 : Int) < l.length := by omega
                have HK : Hid ((∀ i, i < l.length → stpOk s.O s.C s.M (gs l i)) → ∀ j, j < k + 1 → jobOk s.O s.C s.M (gj s.J j)) := Lib.hid fun h => HK.out ⟨g8, h⟩
                have HFk : Hid (∀ i, i < l.length → ¬ stpOk s.O s.C s.M (gs l i) → R = false) := Lib.hid fun i hi h => HFk.out fun g => h (g.2 i hi)
                go_wp2_with fail
                clear hb p0 p1 p2 p3 p4 p5 c0
                obtain ⟨wo, rfl⟩ : ∃ wo : World, wo = wr := ⟨_, rfl⟩
                go_loopw [7] (fun i wr => ∃ n : Nat, n ≤ l.length ∧ i = .int .i64 n ∧ ShBox w wr s ∧ Below wo.heap.size wo wr ∧ Hid (∀ j, j < n → stpOk s.O s.C s.M (gs l j))) (fun i _ => l.length - (intOf i).toNat)
                case atStart => exact ⟨0, Nat.zero_le _, rfl, HB.out, Below.refl _ _, Lib.hid fun j hj => absurd hj (Nat.not_lt_zero _)⟩
                case round =>
                  clear HB
                  obtain ⟨n, hn, rfl, hB1, hbo, HA1⟩ := hrel
                  have HB := Lib.hid hB1
                  obtain ⟨hb, p0, p1, p2, p3, p4, p5⟩ := hB1
                  by_cases hlt1 : n < l.length
                  · obtain rfl := HL1.out (by omega)
                    obtain ⟨c0, c1, c2, c3⟩ := HC1.out n hlt1
                    have c0 := cell_below c0 hbo
                    have c1 := cell_below c1 hbo
                    have c2 := cell_below c2 hbo
                    have c3 := cell_below c3 hbo
                    have n10 : (n : Int) < l.length := by omega
                    have HN : Hid (stpOk s.O s.C s.M (gs l n) → ∀ j, j < n + 1 → stpOk s.O s.C s.M (gs l j)) := Lib.hid fun h j hj => by
                      by_cases e : j = n
                      · subst e; exact h
                      · exact HA1.out j (by omega)
                    have HFn := Lib.hid (HFk.out n hlt1)
                    have HSn := Lib.hid (HS.out (gs l n))
                    have HV := Lib.hid (stpB_iff (O := s.O) (C := s.C) (M := s.M) (p := gs l n))
                    clear HK HFk HC1 HL1 HS
                    generalize stpB s.O s.C s.M (gs l n) = v at *
                    generalize (gs l n).1 = x0 at *
                    generalize (gs l n).2.1 = x1 at *
                    generalize (gs l n).2.2.1 = x2 at *
                    generalize (gs l n).2.2.2 = x3 at *
                    have z0 := block_lt p0
                    have zb := block_lt c0
                    cases hv : v with
                    | true =>
                      have HR := Lib.hid (HN.out (HV.out.1 hv))
                      rw [hv] at HSn
                      clear HN HFn HV hv
                      go_wp2_with fail
                      have hBB := HB.out
                      clear HB
                      go_region_held3 (fun w' => w'.cell? ⟨w.heap.size, 0, none⟩ = some (.int .i64 s.O) ∧ w'.cell? ⟨w.heap.size, 1, none⟩ = some (.int .i64 s.C) ∧ w'.cell? ⟨w.heap.size, 2, none⟩ = some (.slice s.aH s.H.length s.cH) ∧ w'.cell? ⟨w.heap.size, 3, none⟩ = some (.int .i64 s.M) ∧ w'.cell? ⟨w.heap.size, 4, none⟩ = some (.slice s.aS s.S.length s.cS) ∧ w'.cell? ⟨w.heap.size, 5, none⟩ = some (.slice s.aJ s.J.length s.cJ) ∧ w'.cell? ⟨b1, f1 + n * 4, none⟩ = some (.int .i64 x0) ∧ w'.cell? ⟨b1, f1 + n * 4 + 1, none⟩ = some (.int .i64 x1) ∧ w'.cell? ⟨b1, f1 + n * 4 + 2, none⟩ = some (.int .i64 x2) ∧ w'.cell? ⟨b1, f1 + n * 4 + 3, none⟩ = some (.int .i64 x3)) (go_keep)
                        ((go_at_call 32
                          refine (HSn.out _).mono ?_
                          rintro E w9 ⟨rfl, hb9⟩
                          have p0 := (hb9.cell (p := ⟨w.heap.size, 0, none⟩) z0).trans p0
                          have p1 := (hb9.cell (p := ⟨w.heap.size, 1, none⟩) z0).trans p1
                          have p2 := (hb9.cell (p := ⟨w.heap.size, 2, none⟩) z0).trans p2
                          have p3 := (hb9.cell (p := ⟨w.heap.size, 3, none⟩) z0).trans p3
                          have p4 := (hb9.cell (p := ⟨w.heap.size, 4, none⟩) z0).trans p4
                          have p5 := (hb9.cell (p := ⟨w.heap.size, 5, none⟩) z0).trans p5
                          have c0 := (hb9.cell (p := ⟨b1, f1 + n * 4, none⟩) zb).trans c0
                          have c1 := (hb9.cell (p := ⟨b1, f1 + n * 4 + 1, none⟩) zb).trans c1
                          have c2 := (hb9.cell (p := ⟨b1, f1 + n * 4 + 2, none⟩) zb).trans c2
                          have c3 := (hb9.cell (p := ⟨b1, f1 + n * 4 + 3, none⟩) zb).trans c3
                          have hBB : ShBox w w9 s := by first | exact (hBB.on (Below.refl _ _).drew).on hb9 | exact hBB.on hb9
                          have hbo : Below wo.heap.size wo w9 := by first | exact (hbo.drew).trans (hb9.mono hbo.size) | exact hbo.trans (hb9.mono hbo.size)))
                      all_goals
                        go_wp2_with fail
                        go_roundw
                        case rel => exact ⟨n + 1, by omega, by go_num, hBB, hbo, HR⟩
                        case measure => simp [intOf]; omega
                    | false =>
                      have HR := Lib.hid (HFn.out (fun h => by have := HV.out.2 h; rw [hv] at this; cases this))
                      rw [hv] at HSn
                      clear HN HFn HV hv
                      go_wp2_with fail
                      have hBB := HB.out
                      clear HB
                      go_region_held3 (fun w' => w'.cell? ⟨w.heap.size, 0, none⟩ = some (.int .i64 s.O) ∧ w'.cell? ⟨w.heap.size, 1, none⟩ = some (.int .i64 s.C) ∧ w'.cell? ⟨w.heap.size, 2, none⟩ = some (.slice s.aH s.H.length s.cH) ∧ w'.cell? ⟨w.heap.size, 3, none⟩ = some (.int .i64 s.M) ∧ w'.cell? ⟨w.heap.size, 4, none⟩ = some (.slice s.aS s.S.length s.cS) ∧ w'.cell? ⟨w.heap.size, 5, none⟩ = some (.slice s.aJ s.J.length s.cJ) ∧ w'.cell? ⟨b1, f1 + n * 4, none⟩ = some (.int .i64 x0) ∧ w'.cell? ⟨b1, f1 + n * 4 + 1, none⟩ = some (.int .i64 x1) ∧ w'.cell? ⟨b1, f1 + n * 4 + 2, none⟩ = some (.int .i64 x2) ∧ w'.cell? ⟨b1, f1 + n * 4 + 3, none⟩ = some (.int .i64 x3)) (go_keep)
                        ((go_at_call 32
                          refine (HSn.out _).mono ?_
                          rintro E w9 ⟨rfl, hb9⟩
                          have p0 := (hb9.cell (p := ⟨w.heap.size, 0, none⟩) z0).trans p0
                          have p1 := (hb9.cell (p := ⟨w.heap.size, 1, none⟩) z0).trans p1
                          have p2 := (hb9.cell (p := ⟨w.heap.size, 2, none⟩) z0).trans p2
                          have p3 := (hb9.cell (p := ⟨w.heap.size, 3, none⟩) z0).trans p3
                          have p4 := (hb9.cell (p := ⟨w.heap.size, 4, none⟩) z0).trans p4
                          have p5 := (hb9.cell (p := ⟨w.heap.size, 5, none⟩) z0).trans p5
                          have c0 := (hb9.cell (p := ⟨b1, f1 + n * 4, none⟩) zb).trans c0
                          have c1 := (hb9.cell (p := ⟨b1, f1 + n * 4 + 1, none⟩) zb).trans c1
                          have c2 := (hb9.cell (p := ⟨b1, f1 + n * 4 + 2, none⟩) zb).trans c2
                          have c3 := (hb9.cell (p := ⟨b1, f1 + n * 4 + 3, none⟩) zb).trans c3
                          have hBB : ShBox w w9 s := by first | exact (hBB.on (Below.refl _ _).drew).on hb9 | exact hBB.on hb9
                          have hbo : Below wo.heap.size wo w9 := by first | exact (hbo.drew).trans (hb9.mono hbo.size) | exact hbo.trans (hb9.mono hbo.size)))
                      all_goals
                        go_wp2_with fail
                        go_ret
                        rw [HR.out]
                        exact ⟨rfl, hBB.1⟩
                  · obtain rfl : n = l.length := by omega
                    have HR := Lib.hid (HK.out HA1.out)
                    clear HK HFk HC1 HL1 HS HA1 hlt1
                    go_wp2_with fail
                    go_roundw
                    case rel => exact ⟨k + 1, by omega, by go_num, HB.out, HR⟩
                    case measure => simp [intOf]; omega
              · have n8 : (8 : Int) < l.length := by omega
                have HR := Lib.hid (HFk.out fun g => g8 g.1)
                clear HK HFk HC1 HL1 HS
                go_wp2_with fail
                go_ret
                rw [HR.out]
                exact ⟨rfl, hb⟩
            · obtain rfl : k = s.J.length := by omega
              have HR := Lib.hid (HT.out HA.out)
              clear HA HE HF3 HLJ HT hlt
              go_wp2_with fail
              go_ret
              rw [HR.out]
              exact ⟨rfl, hb⟩
end Go.Proofs.Ytgphkfonjfdifaa

namespace Go.Proofs.Ytgphkfonjfdifaa
set_option linter.unusedVariables false
set_option linter.unusedSimpArgs false
open Go.RowKit

set_option maxRecDepth 100000 in
set_option maxHeartbeats 4000000 in
theorem refValid_sh (s : Sh) (w : World) (hI : ShS w s) :
    Calls Try.prog 13 #[.agg #[.int .i64 s.O, .int .i64 s.C, .slice s.aH s.H.length s.cH, .int .i64 s.M, .slice s.aS s.S.length s.cS, .slice s.aJ s.J.length s.cJ]] w fun e w' => e = .returned (.bool (shB s)) ∧ Below w.heap.size w w' := by
  have hlH := hI.1.1
  have hlS := hI.2.1.1
  have hlJ := hI.2.2.1
  have hB := ShBox.start w s 25
  by_cases h1 : 0 ≤ s.O
  · have _t := h1
    by_cases h2 : s.O < s.C
    · have _t := h1
      by_cases h3 : s.C ≤ 1440
      · have _t := h1
        by_cases h4 : s.H.length ≤ 400
        · have _t := h1
          by_cases h5 : 1 ≤ s.M ∧ s.M ≤ 6
          · have _t := h1
            by_cases h6 : (s.S.length : Int) = s.M
            · have _t := h1
              by_cases h7 : s.J.length ≤ 12
              · exact refValid_main s w hI h1 h2 h3 h4 h5.1 h5.2 h6 h7
              · have HR := Lib.hid (shB_f (s := s) (fun g => h7 g.2.2.2.1))
                generalize shB s = R at *
                clear hI
                have n4 : ¬ (400 : Int) < s.H.length := by omega
                have n7 : (12 : Int) < s.J.length := by omega
                have n6 : ((s.S.length : Int) != s.M) = false := by simpa using h6
                have HM := Lib.hid (btw_t h5.1 h5.2)
                clear h6
                go_enter Try.func13, Try.ntmps13
                go_wp2_with (go_at_call 31; refine (rin_any _ _ _ _).mono ?_; rintro e w' ⟨rfl, rfl⟩; rw [HM.out])
                go_ret
                rw [HR.out]
                exact ⟨rfl, hB.1⟩
            · have HR := Lib.hid (shB_f (s := s) (fun g => h6 g.2.2.1.2.1))
              generalize shB s = R at *
              clear hI
              have n4 : ¬ (400 : Int) < s.H.length := by omega
              have n6 : ((s.S.length : Int) != s.M) = true := by simpa using h6
              have HM := Lib.hid (btw_t h5.1 h5.2)
              clear h6
              go_enter Try.func13, Try.ntmps13
              go_wp2_with (go_at_call 31; refine (rin_any _ _ _ _).mono ?_; rintro e w' ⟨rfl, rfl⟩; rw [HM.out])
              go_ret
              rw [HR.out]
              exact ⟨rfl, hB.1⟩
          · have HR := Lib.hid (shB_f (s := s) (fun g => h5 g.2.2.1.1))
            generalize shB s = R at *
            clear hI
            have n4 : ¬ (400 : Int) < s.H.length := by omega
            have HM := Lib.hid (btw_f h5)
            clear h5
            go_enter Try.func13, Try.ntmps13
            go_wp2_with (go_at_call 31; refine (rin_any _ _ _ _).mono ?_; rintro e w' ⟨rfl, rfl⟩; rw [HM.out])
            go_ret
            rw [HR.out]
            exact ⟨rfl, hB.1⟩
        · have HR := Lib.hid (shB_f (s := s) (fun g => h4 g.2.1.1))
          generalize shB s = R at *
          clear hI
          have n4 : (400 : Int) < s.H.length := by omega
          go_enter Try.func13, Try.ntmps13
          go_wp2_with fail
          go_ret
          rw [HR.out]
          exact ⟨rfl, hB.1⟩
      · have HR := Lib.hid (shB_f (s := s) (fun g => h3 g.1.2.2))
        generalize shB s = R at *
        clear hI
        go_enter Try.func13, Try.ntmps13
        go_wp2_with fail
        go_ret
        rw [HR.out]
        exact ⟨rfl, hB.1⟩
    · have HR := Lib.hid (shB_f (s := s) (fun g => h2 g.1.2.1))
      generalize shB s = R at *
      clear hI
      go_enter Try.func13, Try.ntmps13
      go_wp2_with fail
      go_ret
      rw [HR.out]
      exact ⟨rfl, hB.1⟩
  · have HR := Lib.hid (shB_f (s := s) (fun g => h1 g.1.1))
    generalize shB s = R at *
    clear hI
    go_enter Try.func13, Try.ntmps13
    go_wp2_with fail
    go_ret
    rw [HR.out]
    exact ⟨rfl, hB.1⟩
end Go.Proofs.Ytgphkfonjfdifaa
