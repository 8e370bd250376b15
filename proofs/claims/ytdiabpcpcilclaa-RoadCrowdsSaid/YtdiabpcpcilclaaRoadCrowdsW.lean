/-
  The reference's Crowded, samePairs and the law RoadCrowds: it answers true. By an AI agent.
-/
import Derived.Test.YtdiabpcpcilclaaRoadCw
import Derived.Test.YtdiabpcpcilclaaRoadPs
import Derived.Test.YtdiabpcpcilclaaRoadAw
import Derived.Deep.RegionHeld3
import Derived.Deep.DeepCutAuto
import Derived.BigQuiet
namespace Go.Proofs.Ytdiabpcpcilclaa
set_option linter.unusedVariables false
set_option linter.unusedSimpArgs false
open Go.RowKit

theorem part_intC (w : World) (xs : Array Value) (i : Nat) (k : Int) (h : xs[i]? = some (.int .i64 k)) : (part 3 xs i).run Try.prog w = .ok (.int .i64 k) w := by
  simp [part, go_sem, h]
set_option maxRecDepth 100000 in
theorem eq_two (w : World) (x y : Int) : (Op.equalIn 10000 82 (.agg #[.int .i64 x, .int .i64 y]) (.agg #[.int .i64 x, .int .i64 y])).run Try.prog w = .ok true w := by
  have hz : ∀ W, (sizeOf 3).run Try.prog W = .ok 1 W := fun W => by kernel_rfl
  show (Op.equalIn (9999 + 1) _ _ _).run _ _ = _
  rw [Op.equalIn]
  simp only [Sem.run_bind, run_underlying Try.underlying82, Result.andThen_ok, hz]
  simp [Std.Legacy.Range.forIn_eq_forIn_range', List.range', Sem.run_bind, part_intC, run_equalIn_int, Try.underlying3, Std.Legacy.Range.size]
set_option maxRecDepth 100000 in
set_option maxHeartbeats 1000000 in
theorem samePairs_any (a b : Option Addr) (l : List Spn) (ca cb : Nat) (w : World) (hA : PairsS w a l) (hB : PairsS w b l) :
    Calls Try.prog 25 #[.slice a l.length ca, .slice b l.length cb] w fun e w' => e = .returned (.bool true) ∧ Below w.heap.size w w' := by
  obtain ⟨hlen, -, ba, oa, hada, ha⟩ := hA
  obtain ⟨-, -, bb, ob, hadb, hb⟩ := hB
  have HA := Lib.hid ha
  have HB := Lib.hid hb
  have HLA : Hid (0 < l.length → a = some ⟨ba, oa, none⟩) := Lib.hid fun h => hada (by rintro rfl; simp at h)
  have HLB : Hid (0 < l.length → b = some ⟨bb, ob, none⟩) := Lib.hid fun h => hadb (by rintro rfl; simp at h)
  clear ha hb hada hadb
  go_enter Try.func25, Try.ntmps25
  go_wp2_with fail
  go_loopw [5] (fun i wr => ∃ k : Nat, k ≤ l.length ∧ i = .int .i64 k ∧ Below w.heap.size w wr) (fun i _ => l.length - (intOf i).toNat)
  case atStart => exact ⟨0, Nat.zero_le _, rfl, Below.refl _ _⟩
  case round =>
    obtain ⟨k, hk, rfl, hbr⟩ := hrel
    by_cases hlt : k < l.length
    · obtain rfl := HLA.out (by omega)
      obtain rfl := HLB.out (by omega)
      have d0 := cell_below (HA.out k hlt).1 hbr
      have d1 := cell_below (HA.out k hlt).2 hbr
      have d2 := cell_below (HB.out k hlt).1 hbr
      have d3 := cell_below (HB.out k hlt).2 hbr
      have hkl : (k : Int) < (l.length : Int) := by omega
      have hk0 : (0 : Int) ≤ (k : Int) := by omega
      clear HA HB HLA HLB
      generalize (gp l k).1 = x at *
      generalize (gp l k).2 = y at *
      have he := fun W => eq_two W x y
      go_wp2_with fail
      go_quiet (fail)
      go_wp2_with fail
      go_roundw
      case rel => exact ⟨k + 1, by omega, by go_num, below_drewN hbr _⟩
      case measure => simp [intOf]; omega
    · obtain rfl : k = l.length := by omega
      go_wp2_with fail
      go_ret
      exact ⟨rfl, hbr⟩
set_option maxRecDepth 100000 in
set_option maxHeartbeats 4000000 in
theorem refCrowded_any (a : Option Addr) (l : List Chg) (ca : Nat) (g : Int) (w : World) (hQ : QuadS w a l) (hl : l.length ≤ 60) :
    Calls Try.prog 24 #[.slice a l.length ca, .int .i64 g] w (LstE w (crL l g) (crE l g)) := by
  have b2 : decide (200 < (l.length : Int)) = false := decide_eq_false (by omega)
  have HE0 : Hid (∀ W, Below w.heap.size w W → LstE w [] 2 (.returned (.tuple #[.slice none 0 0, .int .i64 2])) W) := Lib.hid fun W h2 => ⟨none, 0, rfl, pairs_nil W, h2, Nat.le_refl _⟩
  obtain ⟨hlen, hf, blk, off, hadr, hcell⟩ := hQ
  have HCl := Lib.hid hcell
  have HL : Hid (0 < l.length → a = some ⟨blk, off, none⟩) := Lib.hid fun h => hadr (pos_ne (n := 0) h)
  clear hcell hadr hf
  cases hg : btw g 0 10000 with
  | false =>
    have HG := Lib.hid hg
    rw [show crE l g = 2 by unfold crE crB; rw [hg, Bool.and_false]; rfl, show crL l g = [] by unfold crL crB; rw [hg, Bool.and_false]; rfl]
    clear hg HCl HL
    go_enter Try.func24, Try.ntmps24
    go_wp2_with (go_at_call 49; refine (from_any _ _ _ _).mono ?_; rintro e w7 ⟨rfl, rfl⟩; rw [HG.out])
    go_ret2
    exact HE0.out _ (Below.refl _ _)
  | true =>
    have HG := Lib.hid hg
    have HBad : Hid (∀ k, k < l.length → postB (gc l k).2.1 (gc l k).2.2.1 (gc l k).2.2.2 = false → crE l g = 2 ∧ crL l g = []) := Lib.hid fun k hk h => by
      have hp : postsB l = false := by unfold postsB; rw [anyK_true (j := k) (by simp [h]) _ hk]; rfl
      exact ⟨by unfold crE crB; rw [hp]; rfl, by unfold crL crB; rw [hp]; rfl⟩
    have HGood : Hid ((∀ k, k < l.length → postB (gc l k).2.1 (gc l k).2.2.1 (gc l k).2.2.2 = true) → crE l g = 0 ∧ crL l g = poutK l g l.length) := Lib.hid fun h => by
      have hp : postsB l = true := by unfold postsB; rw [(anyK_iff _).2 (fun j hj => by simp [h j hj])]; rfl
      exact ⟨by unfold crE crB; rw [hp, hg]; rfl, by unfold crL crB; rw [hp, hg]; rfl⟩
    have HPc : Hid (∀ k, postB (gc l k).2.1 (gc l k).2.2.1 (gc l k).2.2.2 = true → 0 ≤ (gc l k).2.1 ∧ (gc l k).2.1 ≤ 10000000) := Lib.hid fun k h => by
      unfold postB at h
      rw [Bool.and_eq_true, Bool.and_eq_true, btw_iff] at h
      exact h.1.1
    have hpl : ∀ i, i ≤ l.length → (poutK l g i).length ≤ 3600 := fun i hi => by
      have := pout_len l g i
      have h2 : i * l.length ≤ 60 * 60 := Nat.mul_le_mul (by omega) hl
      omega
    have HPL := Lib.hid hpl
    have HEnd : Hid (∀ W b c, W.ownsRow w.heap.size 82 2 (.slice b (poutK l g l.length).length c) (poutK l g l.length).length (clS (poutK l g l.length)) → Below w.heap.size w W → LstE w (poutK l g l.length) 0 (.returned (.tuple #[.slice b (poutK l g l.length).length c, .int .i64 0])) W) := Lib.hid fun W b c h hb => by
      have h1 := hpl l.length (Nat.le_refl _)
      obtain ⟨h2, h3⟩ := pairs_ownA h (by omega) fun j hj => pout_64 l g (by omega) l.length (by omega) _ (gp_mem hj)
      exact ⟨b, c, rfl, h2, hb, h3⟩
    have HPo : Hid (∀ i, poutK l g (i + 1) = poutK l g i ++ pinK l g i l.length) := Lib.hid fun i => rfl
    obtain ⟨n0, hi, hz0, hz1, hz2⟩ := info_parts arrInfo
    clear hg hpl
    go_enter Try.func24, Try.ntmps24
    go_wp2_with (go_at_call 49; refine (from_any _ _ _ _).mono ?_; rintro e w7 ⟨rfl, rfl⟩; rw [HG.out])
    go_loopw [6] (fun i wr => ∃ k : Nat, k ≤ l.length ∧ i = .int .i64 k ∧ Hid (∀ j, j < k → postB (gc l j).2.1 (gc l j).2.2.1 (gc l j).2.2.2 = true) ∧ Below w.heap.size w wr) (fun i _ => l.length - (intOf i).toNat)
    case atStart => exact ⟨0, Nat.zero_le _, rfl, Lib.hid fun j hj => absurd hj (Nat.not_lt_zero _), Below.refl _ _⟩
    case round =>
      obtain ⟨k, hk, rfl, HN, hbr⟩ := hrel
      by_cases hlt : k < l.length
      · obtain rfl := HL.out (by omega)
        obtain ⟨d0, d1, d2, d3⟩ := HCl.out k hlt
        have d0 := cell_below d0 hbr
        have d1 := cell_below d1 hbr
        have d2 := cell_below d2 hbr
        have d3 := cell_below d3 hbr
        have hkl : (k : Int) < (l.length : Int) := by omega
        have hk0 : (0 : Int) ≤ (k : Int) := by omega
        have hmeas : l.length - (k + 1) < l.length - k := by omega
        have HS : Hid (postB (gc l k).2.1 (gc l k).2.2.1 (gc l k).2.2.2 = true → ∀ j, j < k + 1 → postB (gc l j).2.1 (gc l j).2.2.1 (gc l j).2.2.2 = true) := Lib.hid fun h j hj => by
          by_cases e : j = k
          · subst e; exact h
          · exact HN.out j (by omega)
        have HBk := Lib.hid (HBad.out k hlt)
        have HPs := Lib.hid (fun W => refPost_any (gc l k).1 (gc l k).2.1 (gc l k).2.2.1 (gc l k).2.2.2 W)
        clear HCl HL HBad HGood HPc HPL HEnd HPo HN HG
        cases hpb : postB (gc l k).2.1 (gc l k).2.2.1 (gc l k).2.2.2 with
        | true =>
          rw [hpb] at HPs
          have HSk := Lib.hid (HS.out hpb)
          clear hpb HS HBk
          generalize (gc l k).1 = e0 at *
          generalize (gc l k).2.1 = e1 at *
          generalize (gc l k).2.2.1 = e2 at *
          generalize (gc l k).2.2.2 = e3 at *
          go_wp2_with fail
          refine (HPs.out _).mono ?_
          rintro e w1 ⟨rfl, hb1⟩
          have hbr := below_on hbr hb1
          go_wp2_with fail
          go_roundw
          case rel => exact ⟨k + 1, by omega, by go_num, HSk, hbr⟩
          case measure => first | (simp [intOf]; exact hmeas) | simpa [intOf] using hmeas
        | false =>
          rw [hpb] at HPs
          obtain ⟨r1, r2⟩ := HBk.out hpb
          have R1 := Lib.hid r1
          have R2 := Lib.hid r2
          clear hpb HS HBk r1 r2
          generalize (gc l k).1 = e0 at *
          generalize (gc l k).2.1 = e1 at *
          generalize (gc l k).2.2.1 = e2 at *
          generalize (gc l k).2.2.2 = e3 at *
          go_wp2_with fail
          refine (HPs.out _).mono ?_
          rintro e w1 ⟨rfl, hb1⟩
          have hbr := below_on hbr hb1
          go_wp2_with fail
          go_ret2
          rw [R1.out, R2.out]
          exact HE0.out _ hbr
      · obtain rfl : k = l.length := by omega
        obtain ⟨r1, r2⟩ := HGood.out HN.out
        have R1 := Lib.hid r1
        have R2 := Lib.hid r2
        have HPB : Hid (∀ k, k < l.length → 0 ≤ (gc l k).2.1 ∧ (gc l k).2.1 ≤ 10000000) := Lib.hid fun k hk => HPc.out k (HN.out k hk)
        clear r1 r2 HGood HBad HN HPc HG
        have hnl : ¬ ((l.length : Int) < (l.length : Int)) := by omega
        go_wp2_with fail
        have hb0 := hbr
        go_loopw [7, 8] (fun v i wr => ∃ m : Nat, m ≤ l.length ∧ i = .int .i64 m ∧ (∃ a c, v = .slice a (poutK l g m).length c) ∧ Hid (wr.ownsRow w.heap.size 82 2 v (poutK l g m).length (clS (poutK l g m))) ∧ Below w.heap.size w wr) (fun _ i _ => l.length - (intOf i).toNat)
        case atStart => exact ⟨0, Nat.zero_le _, rfl, ⟨none, 0, rfl⟩, Lib.hid ⟨rfl, .inl ⟨rfl, rfl⟩⟩, hb0⟩
        case round =>
          obtain ⟨i, hik, rfl, ⟨ao, co, rfl⟩, HRow, hbu⟩ := hrel
          by_cases hlt2 : i < l.length
          · obtain rfl := HL.out (by omega)
            have HPi := Lib.hid (HPo.out i)
            have hpi := HPL.out i hik
            have HNr : Hid (∀ k, nearB (gc l i) (gc l k) g = (((gc l i).2.2.1 == (gc l k).2.2.1) && ((gc l i).2.2.2 == (gc l k).2.2.2) && decide (max (gc l i).2.1 (gc l k).2.1 - min (gc l i).2.1 (gc l k).2.1 < g))) := Lib.hid fun k => rfl
            obtain ⟨px0, px1⟩ := HPB.out i hlt2
            have HCi := Lib.hid (HCl.out i hlt2)
            have hmeasO : l.length - (i + 1) < l.length - i := by omega
            have hi1 : i + 1 ≤ l.length := by omega
            have hil : (i : Int) < (l.length : Int) := by omega
            have hi0 : (0 : Int) ≤ (i : Int) := by omega
            obtain ⟨S0, hS0⟩ : ∃ S0, poutK l g i = S0 := ⟨_, rfl⟩
            rw [hS0] at HRow hpi HPi ⊢
            obtain ⟨P1, hP1⟩ : ∃ P1, (gc l i).2.1 = P1 := ⟨_, rfl⟩
            obtain ⟨P2, hP2⟩ : ∃ P2, (gc l i).2.2.1 = P2 := ⟨_, rfl⟩
            obtain ⟨P3, hP3⟩ : ∃ P3, (gc l i).2.2.2 = P3 := ⟨_, rfl⟩
            rw [hP1] at px0 px1
            rw [hP1, hP2, hP3] at HCi
            simp only [hP1, hP2, hP3] at HNr
            have hI0 : Hid (pinK l g i (i + 1) = []) := Lib.hid (pin_none l g i (i + 1) (Nat.le_refl _))
            clear hS0 hP1 hP2 hP3 HEnd HPL HPo hb0 hbr
            obtain ⟨wu, rfl⟩ : ∃ wu : World, wu = wr := ⟨_, rfl⟩
            have HRx := HRow
            clear HRow
            go_wp2_with fail
            go_loopw [7, 9] (fun v j wr => ∃ k : Nat, i + 1 ≤ k ∧ k ≤ l.length ∧ j = .int .i64 k ∧ (∃ a c, v = .slice a (S0 ++ pinK l g i k).length c) ∧ Hid (wr.ownsRow w.heap.size 82 2 v (S0 ++ pinK l g i k).length (clS (S0 ++ pinK l g i k))) ∧ Below w.heap.size w wr) (fun _ j _ => l.length - (intOf j).toNat)
            case atStart => exact ⟨i + 1, Nat.le_refl _, hi1, by go_num, ⟨ao, co, by rw [hI0.out, List.append_nil]⟩, by rw [hI0.out, List.append_nil]; exact HRx, hbu⟩
            case round =>
              obtain ⟨k, hk0, hk1', rfl, ⟨av, cv, rfl⟩, HRow, hbr⟩ := hrel
              by_cases hlk : k < l.length
              · obtain ⟨d0, d1, d2, d3⟩ := HCl.out k hlk
                have d1 := cell_below d1 hbr
                have d2 := cell_below d2 hbr
                have d3 := cell_below d3 hbr
                obtain ⟨f0, f1, f2, f3⟩ := HCi.out
                have f1 := cell_below f1 hbr
                have f2 := cell_below f2 hbr
                have f3 := cell_below f3 hbr
                obtain ⟨qx0, qx1⟩ := HPB.out k hlk
                have HNb := Lib.hid (HNr.out k)
                have hk1 : k + 1 ≤ l.length := by omega
                have hkl : (k : Int) < (l.length : Int) := by omega
                have hkn : (0 : Int) ≤ (k : Int) := by omega
                have hmeas : l.length - (k + 1) < l.length - k := by omega
                have hpn := pin_len l g i k
                have hpq : (S0 ++ pinK l g i k).length ≤ 3700 := by rw [List.length_append]; omega
                have HPn : Hid (pinK l g i (k + 1) = pinK l g i k ++ (if i < k ∧ nearB (gc l i) (gc l k) g = true then [((i : Int), (k : Int))] else [])) := Lib.hid rfl
                clear HCl HCi HL HPB HNr HPi HRx hI0 hbu hpn d0 f0 R1 R2 HE0
                generalize (gc l k).2.1 = e1 at *
                generalize (gc l k).2.2.1 = e2 at *
                generalize (gc l k).2.2.2 = e3 at *
                cases h1 : (P2 == e2) with
                | false =>
                  have HNb : Hid (nearB (gc l i) (gc l k) g = false) := Lib.hid (by rw [HNb.out, h1]; rfl)
                  clear HPn
                  have hin : Hid (S0 ++ pinK l g i (k + 1) = S0 ++ pinK l g i k) := Lib.hid (by rw [pinK, if_neg (by rw [HNb.out]; simp), List.append_nil])
                  clear HNb
                  generalize S0 ++ pinK l g i k = S1 at *
                  go_wp2_with fail
                  go_quiet (fail)
                  go_wp2_with fail
                  go_roundw
                  case rel => exact ⟨k + 1, by omega, hk1, by go_num, ⟨av, cv, by rw [hin.out]⟩, by rw [hin.out]; exact Lib.hid (owns_below HRow.out (below_drewN (Below.refl _ _) _)), below_drewN hbr _⟩
                  case measure => first | (simp [intOf]; exact hmeas) | simpa [intOf] using hmeas

                | true =>
                  cases h2 : (P3 == e3) with
                  | false =>
                    have HNb : Hid (nearB (gc l i) (gc l k) g = false) := Lib.hid (by rw [HNb.out, h1, h2]; rfl)
                    clear HPn
                    have hin : Hid (S0 ++ pinK l g i (k + 1) = S0 ++ pinK l g i k) := Lib.hid (by rw [pinK, if_neg (by rw [HNb.out]; simp), List.append_nil])
                    clear HNb
                    generalize S0 ++ pinK l g i k = S1 at *
                    go_wp2_with fail
                    go_quiet (fail)
                    go_wp2_with fail
                    go_roundw
                    case rel => exact ⟨k + 1, by omega, hk1, by go_num, ⟨av, cv, by rw [hin.out]⟩, by rw [hin.out]; exact Lib.hid (owns_below HRow.out (below_drewN (Below.refl _ _) _)), below_drewN hbr _⟩
                    case measure => first | (simp [intOf]; exact hmeas) | simpa [intOf] using hmeas

                  | true =>
                    obtain ⟨D, hD⟩ : ∃ D, max (P1 - e1) (e1 - P1) = D := ⟨_, rfl⟩
                    have hDD : max P1 e1 - min P1 e1 = D := by omega
                    have w1 : IntKind.i64.wrap (P1 - e1) = P1 - e1 := IntWalk.i64_in _ (by omega)
                    have w2 : IntKind.i64.wrap (e1 - P1) = e1 - P1 := IntWalk.i64_in _ (by omega)
                    rw [hDD, h1, h2, Bool.true_and, Bool.true_and] at HNb
                    clear hDD
                    by_cases h3 : D < g
                    · have h3' : decide (D < g) = true := decide_eq_true h3
                      have hin : Hid ((S0 ++ pinK l g i (k + 1)).length = (S0 ++ pinK l g i k).length + 1 ∧ clS (S0 ++ pinK l g i (k + 1)) = clS (S0 ++ pinK l g i k) ++ [.int .i64 (i : Int), .int .i64 (k : Int)]) := Lib.hid (by
                        rw [HPn.out, if_pos ⟨by omega, by rw [HNb.out]; exact h3'⟩, ← List.append_assoc, clS_app]
                        exact ⟨by simp; omega, rfl⟩)
                      clear HNb HPn
                      go_wp2_with fail
                      go_quiet (fail)
                      have hbq := below_drewN hbr nq
                      have HRow := Lib.hid (owns_below HRow.out (below_drewN (Below.refl wr.heap.size wr) nq))
                      clear d1 d2 d3 f1 f2 f3 h1 h2 h3 h3' hD w1 w2 hbr
                      generalize wr.drewN nq = wq at hbq HRow ⊢
                      generalize S0 ++ pinK l g i k = S1 at *
                      have hown := Lib.hid (HRow.out.alloc (.cells #[.int .i64 (i : Int), .int .i64 (k : Int)] 82))
                      have hbs : w.heap.size ≤ wq.heap.size := hbq.size
                      have hnw6 := Lib.hid (World.news_of_block (w := wq.alloc (.cells #[.int .i64 (i : Int), .int .i64 (k : Int)] 82)) (B := wq.heap.size) (cs := #[.int .i64 (i : Int), .int .i64 (k : Int)]) (t := 82) (fr := (0, 0)) (heap_alloc_new _ _))
                      go_wp2_with (first | (at_builtin; go_loud (refine wpList_append_lies _ rfl _ _ 46 rfl w.heap.size 82 n0 _ 2 16 Try.underlying46 hi hz0 hz1 hz2 rfl (by decide) (.slice av S1.length cv) (S1.length) _ (by rfl) hown.out ⟨wq.heap.size, 0, none⟩ 1 1 [.int .i64 (i : Int), .int .i64 (k : Int)] (by rfl) (by rfl) (by exact hnw6.out) (by simp [Value.oneCell']) (by decide) (by unfold maxLen; omega) (by omega) (by first | (simp; omega) | simp | omega) _ rfl ?_)))
                      intro g6 c6 w6 hown6 hgrow6 hat6 hlt6
                      have hb6 : Below w.heap.size w w6 := ((hbq.alloc hbs _).grown hgrow6 (by first | (simp; omega) | simp | omega) (fun z hz => owns_block hown.out hz))

                      clear hgrow6 hat6 hlt6 hown hnw6 HRow
                      have HIN : Hid ((∃ a c, Value.slice (some ⟨g6, 0, none⟩) (S1.length + 1) c6 = .slice a (S0 ++ pinK l g i (k + 1)).length c) ∧ Hid (w6.ownsRow w.heap.size 82 2 (.slice (some ⟨g6, 0, none⟩) (S1.length + 1) c6) (S0 ++ pinK l g i (k + 1)).length (clS (S0 ++ pinK l g i (k + 1))))) := Lib.hid (by rw [hin.out.1, hin.out.2]; exact ⟨⟨_, _, rfl⟩, Lib.hid hown6⟩)
                      clear hown6
                      go_wp2_with fail
                      go_roundw
                      case rel => exact ⟨k + 1, by omega, hk1, by go_num, HIN.out.1, HIN.out.2, hb6⟩
                      case measure => first | (simp [intOf]; exact hmeas) | simpa [intOf] using hmeas
                    · have h3' : decide (D < g) = false := decide_eq_false h3
                      have HNb : Hid (nearB (gc l i) (gc l k) g = false) := Lib.hid (by rw [HNb.out]; exact h3')
                      clear HPn
                      have hin : Hid (S0 ++ pinK l g i (k + 1) = S0 ++ pinK l g i k) := Lib.hid (by rw [pinK, if_neg (by rw [HNb.out]; simp), List.append_nil])
                      clear HNb
                      generalize S0 ++ pinK l g i k = S1 at *
                      go_wp2_with fail
                      go_quiet (fail)
                      go_wp2_with fail
                      go_roundw
                      case rel => exact ⟨k + 1, by omega, hk1, by go_num, ⟨av, cv, by rw [hin.out]⟩, by rw [hin.out]; exact Lib.hid (owns_below HRow.out (below_drewN (Below.refl _ _) _)), below_drewN hbr _⟩
                      case measure => first | (simp [intOf]; exact hmeas) | simpa [intOf] using hmeas

              · obtain rfl : k = l.length := by omega
                have hin : Hid ((∃ a c, Value.slice av (S0 ++ pinK l g i l.length).length cv = .slice a (poutK l g (i + 1)).length c) ∧ Hid (wr.ownsRow w.heap.size 82 2 (.slice av (S0 ++ pinK l g i l.length).length cv) (poutK l g (i + 1)).length (clS (poutK l g (i + 1))))) := Lib.hid (by rw [HPi.out]; exact ⟨⟨_, _, rfl⟩, HRow⟩)
                clear HCl HCi HL HPB HNr HPi HRx hI0 hbu HRow
                go_wp2_with fail
                go_roundw
                case rel => exact ⟨i + 1, hi1, by go_num, hin.out.1, hin.out.2, hbr⟩
                case measure => first | (simp [intOf]; exact hmeasO) | simpa [intOf] using hmeasO
          · obtain rfl : i = l.length := by omega
            have hE := Lib.hid (HEnd.out _ _ _ HRow.out hbu)
            clear HCl HL HPL HPo HPB HEnd HRow
            go_wp2_with fail
            go_ret2
            rw [R1.out, R2.out]
            exact hE.out
set_option maxRecDepth 100000 in
set_option maxHeartbeats 1000000 in
theorem roadCrowds_any (a : Option Addr) (l : List Chg) (ca : Nat) (g : Int) (w : World) (hQ : QuadS w a l) :
    Calls Try.prog 6 #[.slice a l.length ca, .int .i64 g] w fun e w' => e = .returned (.bool true) ∧ Below w.heap.size w w' := by
  have HA := Lib.hid awake_any
  by_cases hl : l.length ≤ 60
  · have b0 : decide (60 < (l.length : Int)) = false := decide_eq_false (by omega)
    have HC := Lib.hid (Crowded_any a l ca g w hQ hl)
    have HR := Lib.hid (fun W (hW : Below w.heap.size w W) => refCrowded_any a l ca g W (hQ.below hW) hl)
    generalize crL l g = Q at *
    generalize crE l g = E at *
    clear hQ
    go_enter Try.func6, Try.ntmps6
    go_wp2_with fail
    refine HC.out.mono ?_
    rintro e w1 ⟨b1, c1, rfl, hp1, hb1, -⟩
    have H1 := Lib.hid hp1
    clear hp1 HC
    go_wp2_with fail
    refine (HR.out _ hb1).mono ?_
    rintro e w2 ⟨b2, c2, rfl, hp2, hb2, -⟩
    have H1 := Lib.hid (H1.out.below hb2)
    have H2 := Lib.hid hp2
    have hb := below_on hb1 hb2
    clear hp2 HR hb1 hb2
    go_wp2_with fail
    refine (samePairs_any b1 b2 Q c1 c2 _ H1.out H2.out).mono ?_
    rintro e w3 ⟨rfl, hb3⟩
    have hb := below_on hb hb3
    clear H1 H2 hb3
    go_wp2_with fail
    refine (HA.out _).mono ?_
    rintro e w9 ⟨rfl, hb9⟩
    go_wp2_with fail
    go_ret
    exact ⟨rfl, below_on hb hb9⟩

  · have b0 : decide (60 < (l.length : Int)) = true := decide_eq_true (by omega)
    clear hQ
    go_enter Try.func6, Try.ntmps6
    go_wp2_with fail
    refine (HA.out _).mono ?_
    rintro e w9 ⟨rfl, hb9⟩
    go_wp2_with fail
    go_ret
    exact ⟨rfl, hb9⟩

end Go.Proofs.Ytdiabpcpcilclaa
