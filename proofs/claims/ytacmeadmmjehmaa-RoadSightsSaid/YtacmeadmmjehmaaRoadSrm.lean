/-
  Sight of the reference, where it is good. By an AI agent.
-/
import Derived.Test.YtacmeadmmjehmaaRoadSr
import Derived.BigQuiet
import Derived.StillTailTactics
namespace Go.Proofs.Ytacmeadmmjehmaa
set_option linter.unusedVariables false
set_option linter.unusedSimpArgs false
open Go.RowKit

theorem sgK_nn0m {c d s far : Int} (l : List Sw) (hf : 0 ≤ far) (hc : 0 ≤ c) : ∀ k, 0 ≤ sgK c d s far l k
  | 0 => by rw [sgK, sg0]; split <;> omega
  | k + 1 => by
    have h0 := sgK_nn0m l hf hc k (d := d) (s := s)
    by_cases h : (gw l k).1 = s ∧ 0 < frE c d (gw l k).2.1 (gw l k).2.2
    · rw [(sgK_next c d s far l k).1 h]; omega
    · rw [(sgK_next c d s far l k).2 h]; exact h0
theorem sgK_le0m (c d s far : Int) (l : List Sw) : ∀ k, sgK c d s far l k ≤ far
  | 0 => by rw [sgK, sg0]; split <;> omega
  | k + 1 => by
    have h0 := sgK_le0m c d s far l k
    by_cases h : (gw l k).1 = s ∧ 0 < frE c d (gw l k).2.1 (gw l k).2.2
    · rw [(sgK_next c d s far l k).1 h]; omega
    · rw [(sgK_next c d s far l k).2 h]; exact h0
set_option maxRecDepth 100000 in
set_option maxHeartbeats 2000000 in
theorem refSight_m (n c s far : Int) (aw : Option Addr) (l : List Sw) (cw : Nat) (w : World) (hf : 0 ≤ far ∧ far ≤ 10000) (hl : l.length ≤ 200) (hT : TripS w aw l) (hp : postB c (-1) s = true) (ha : wrB l = false) :
    Calls Try.prog 46 #[.agg #[.int .i64 n, .int .i64 c, .int .i64 (-1), .int .i64 s], .slice aw l.length cw, .int .i64 far] w fun e w' => e = .returned (.tuple #[.int .i64 (sgK c (-1) s far l l.length), .int .i64 0]) ∧ Below w.heap.size w w' := by
  have HP := Lib.hid (fun W => hp ▸ refPost_any n c (-1) s W)
  have hc : 0 ≤ c ∧ c ≤ 10000000 := by
    have := hp
    simp only [postB, Bool.and_eq_true, btw_iff] at this
    exact this.1.1
  have HW : Hid (∀ q, q < l.length → wallB (gw l q) = true) := Lib.hid (fun q hq => by
    have := (anyK_iff _).1 ha q hq
    simpa using this)
  have HIFF := Lib.hid (fun x hx => sgK_iff (c := c) (d := (-1)) (s := s) (far := far) (l := l) (.inr rfl) (x := x) hx (fun j hj => (wrB_ok ha j hj).2.2) l.length (Nat.le_refl _))
  have HV0 := Lib.hid (sgK_nn0m (d := (-1)) (s := s) l hf.1 hc.1 l.length)
  have HVf := Lib.hid (sgK_le0m c (-1) s far l l.length)
  have HSG : Hid (sg0 c (-1) far = far) := Lib.hid (if_neg (by decide))
  obtain ⟨V, hV⟩ : ∃ V, sgK c (-1) s far l l.length = V := ⟨_, rfl⟩
  rw [hV] at HIFF HV0 HVf ⊢
  have H1 := Lib.hid (btw_t hf.1 hf.2)
  have H3 := H1
  have hl2 : (l.length : Int) ≤ 200 := by omega
  obtain ⟨hlen, -, blk, off, hadr, hcs⟩ := hT
  have HC := Lib.hid hcs
  have HL : Hid (0 < l.length → aw = some ⟨blk, off, none⟩) := Lib.hid fun h => hadr (pos_ne (n := 0) h)
  clear hcs hadr hlen

  obtain ⟨c0, c1⟩ := hc
  obtain ⟨f0, f1⟩ := hf
  clear hp ha hl hV
  go_enter Try.func46, Try.ntmps46
  go_wp2_with fail
  obtain ⟨wB, hwB⟩ : ∃ wB, w.alloc (.cells #[.int .i64 n, .int .i64 c, .int .i64 (-1), .int .i64 s] 64) = wB := ⟨_, rfl⟩
  have hb : Below w.heap.size w wB := by rw [← hwB]; exact (Below.refl _ _).alloc (Nat.le_refl _) _
  have p0 : wB.cell? ⟨w.heap.size, 0, none⟩ = some (.int .i64 n) := by rw [← hwB]; simp [go_sem]
  have p1 : wB.cell? ⟨w.heap.size, 1, none⟩ = some (.int .i64 c) := by rw [← hwB]; simp [go_sem]
  have p2 : wB.cell? ⟨w.heap.size, 2, none⟩ = some (.int .i64 (-1)) := by rw [← hwB]; simp [go_sem]
  have p3 : wB.cell? ⟨w.heap.size, 3, none⟩ = some (.int .i64 s) := by rw [← hwB]; simp [go_sem]
  rw [hwB]
  clear hwB
  refine (HP.out _).mono ?_
  rintro e wo ⟨rfl, hb1⟩
  have p0 := cell_below p0 hb1
  have p1 := cell_below p1 hb1
  have p2 := cell_below p2 hb1
  have p3 := cell_below p3 hb1
  have hbo := below_on hb hb1
  clear hb1
  go_wp2_with (go_at_call 53; refine (from_any _ _ _ _).mono ?_; rintro e w' ⟨rfl, rfl⟩; first | rw [H1.out] | rw [H3.out])
  go_loopw [8] (fun i wr => ∃ j : Nat, j ≤ l.length ∧ i = .int .i64 j ∧ Below wo.heap.size wo wr ∧ Hid (∀ q, q < j → wallB (gw l q) = true)) (fun i _ => l.length - (intOf i).toNat)
  case atStart => exact ⟨0, Nat.zero_le _, rfl, Below.refl _ _, Lib.hid fun q hq => absurd hq (Nat.not_lt_zero _)⟩
  case round =>
    obtain ⟨j, hj, rfl, hbr, HVs⟩ := hrel
    by_cases hlt : j < l.length
    · obtain rfl := HL.out (by omega)
      obtain ⟨e0, e1, e2⟩ := HC.out j hlt
      have e0 := cell_below e0 (below_on hbo hbr)
      have e1 := cell_below e1 (below_on hbo hbr)
      have e2 := cell_below e2 (below_on hbo hbr)
      have HN : Hid (wallB (gw l j) = true → ∀ q, q < j + 1 → wallB (gw l q) = true) := Lib.hid (fun h q hq => by
        by_cases e : q = j
        · subst e; exact h
        · exact HVs.out q (by omega))
      have HV := Lib.hid (HW.out j hlt)
      have HB : Hid (btw (gw l j).1 0 1 = true → 0 ≤ (gw l j).2.1 → (gw l j).2.1 ≤ (gw l j).2.2 → (gw l j).2.2 ≤ 10000000 → wallB (gw l j) = true) := Lib.hid (fun h1 h2 h3 h4 => by
        rw [sd_btw] at h1
        simp only [wallB, h1, Bool.true_and, Bool.and_eq_true, btw_iff, decide_eq_true_eq]
        omega)
      have hk1 : j + 1 ≤ l.length := by omega
      have hmeas : l.length - (j + 1) < l.length - j := by omega
      have hv := HV.out
      simp only [wallB, Bool.and_eq_true, btw_iff, decide_eq_true_eq] at hv
      have hv1 : btw (gw l j).1 0 1 = true := by rw [sd_btw]; exact hv.1.1
      have hbA := (below_on hbo hbr).alloc (below_on hbo hbr).size (.cells #[.int .i64 (gw l j).1, .int .i64 (gw l j).2.1, .int .i64 (gw l j).2.2] 69)
      have hbr2 := hbr.alloc hbr.size (.cells #[.int .i64 (gw l j).1, .int .i64 (gw l j).2.1, .int .i64 (gw l j).2.2] 69)
      have hn := HN.out
      have HN := Lib.hid (fun h1 h2 h3 h4 => hn (HB.out h1 h2 h3 h4))
      clear hn HB HVs HV
      generalize (gw l j).1 = x at *
      generalize (gw l j).2.1 = a at *
      generalize (gw l j).2.2 = b at *
      have HS := Lib.hid hv1
      have ha : 0 ≤ a := hv.1.2.1.1
      have hab : a ≤ b := hv.2
      have hbb : b ≤ 10000000 := hv.1.2.2.2
      have HN := Lib.hid (HN.out hv1 ha hab hbb)
      clear hv hv1
      go_wp2_with (go_at_call 53; refine (from_any _ _ _ _).mono ?_; rintro e w' ⟨rfl, rfl⟩; rw [HS.out])
      go_roundw
      case rel => exact ⟨j + 1, hk1, by go_num, hbr2, HN⟩
      case measure => first | (simp [intOf]; exact hmeas) | simpa [intOf] using hmeas
    · obtain rfl : j = l.length := by omega
      obtain ⟨wa, rfl⟩ : ∃ wa : World, wa = wr := ⟨_, rfl⟩
      have hbo2 := below_on hbo hbr
      have p0 := cell_below p0 hbr
      have p1 := cell_below p1 hbr
      have p2 := cell_below p2 hbr
      have p3 := cell_below p3 hbr
      clear HVs
      go_wp2_with fail
      go_loopw [10] (fun v wr => ∃ x : Int, 1 ≤ x ∧ v = .int .i64 x ∧ x ≤ far + 1 ∧ Hid (x - 1 ≤ V) ∧ Below wa.heap.size wa wr) (fun v _ => (far + 1 - intOf v).toNat)
      case atStart => exact ⟨1, Int.le_refl _, rfl, by omega, Lib.hid (by have := HV0.out; omega), Below.refl _ _⟩
      case round =>
        obtain ⟨x, hx1, rfl, hxf, HXV, hbr⟩ := hrel
        by_cases hxl : x ≤ far
        · have HIx := Lib.hid (HIFF.out x hx1)
          have p0 := cell_below p0 hbr
          have p1 := cell_below p1 hbr
          have p2 := cell_below p2 hbr
          have p3 := cell_below p3 hbr
          have HIs := Lib.hid (show x ≤ sg0 c (-1) far by rw [HSG.out]; omega)
          have hcx : ¬ c + x < 0 := by omega
          obtain ⟨wc, rfl⟩ : ∃ wc : World, wc = wr := ⟨_, rfl⟩
          have hbo3 := below_on hbo2 hbr
          go_wp2_with fail
          go_loopw [12] (fun i wr => ∃ j : Nat, j ≤ l.length ∧ i = .int .i64 j ∧ Below wc.heap.size wc wr ∧ Hid (∀ q, q < j → ¬ hidX c (-1) s x (gw l q))) (fun i _ => l.length - (intOf i).toNat)
          case atStart => exact ⟨0, Nat.zero_le _, rfl, Below.refl _ _, Lib.hid fun q hq => absurd hq (Nat.not_lt_zero _)⟩
          case round =>
            obtain ⟨j, hj, rfl, hbr3, HNs⟩ := hrel
            by_cases hlt : j < l.length
            · obtain rfl := HL.out (by omega)
              obtain ⟨e0, e1, e2⟩ := HC.out j hlt
              have hB := below_on hbo3 hbr3
              have e0 := cell_below e0 hB
              have e1 := cell_below e1 hB
              have e2 := cell_below e2 hB
              have p0 := cell_below p0 hbr3
              have p1 := cell_below p1 hbr3
              have p2 := cell_below p2 hbr3
              have p3 := cell_below p3 hbr3
              have HN : Hid (¬ hidX c (-1) s x (gw l j) → ∀ q, q < j + 1 → ¬ hidX c (-1) s x (gw l q)) := Lib.hid (fun h q hq => by
                by_cases e : q = j
                · subst e; exact h
                · exact HNs.out q (by omega))
              have HT1 : Hid (hidX c (-1) s x (gw l j) → V = x - 1) := Lib.hid (fun h => by
                have h1 := HIx.out; have h2 := HXV.out
                have : ¬ x ≤ V := fun g => (h1.1 g).2 j hlt h
                omega)
              have HX : Hid (hidX c (-1) s x (gw l j) ↔ (gw l j).1 = s ∧ hdB (gw l j).2.1 (gw l j).2.2 (c) (c + x) = true) := Lib.hid (by
                unfold hidX hdB
                simp only [Bool.and_eq_true, decide_eq_true_eq]
                constructor <;> intro h <;> refine ⟨h.1, ?_⟩ <;> omega)
              have HHd := Lib.hid (fun W => hides_any (gw l j).1 (gw l j).2.1 (gw l j).2.2 (c) (c + x) W)
              have hk1 : j + 1 ≤ l.length := by omega
              have hmeas : l.length - (j + 1) < l.length - j := by omega
              clear HNs HIx HXV HIFF HC HL HW H1 H3 HIs
              generalize hidX c (-1) s x (gw l j) = Q at *
              generalize hdB (gw l j).2.1 (gw l j).2.2 (c) (c + x) = v at *
              generalize (gw l j).1 = y at *
              generalize (gw l j).2.1 = a at *
              generalize (gw l j).2.2 = b at *
              by_cases hxs : y = s
              · subst hxs
                cases v with
                | true =>
                  have HR := Lib.hid (HT1.out (HX.out.2 ⟨rfl, rfl⟩))
                  clear HN HT1 HX
                  go_wp2_with fail
                  go_still_tail 21, (by kernel_rfl)
                  change wpList _ _ _ _ _ wr.drew
                  have hB := hB.drew
                  have hbr3 := hbr3.drew
                  generalize wr.drew = wq at hB hbr3 ⊢
                  clear p0 p1 p2 p3 e0 e1 e2
                  go_wp2_with fail

                  refine (HHd.out _).mono ?_
                  rintro E w9 ⟨rfl, hb9⟩
                  have hB := below_on hB hb9
                  have hbr3 := below_on hbr3 hb9
                  all_goals
                    go_wp2_with fail
                    go_ret2
                    exact ⟨by rw [HR.out] <;> rfl, (by first | exact hB.drew | exact hB | exact hB.drew.drew | exact below_drewN hB _ | exact below_drewN hB.drew _)⟩
                | false =>
                  have HN2 := Lib.hid (HN.out (fun h => by have := (HX.out.1 h).2; cases this))
                  clear HN HT1 HX
                  go_wp2_with fail
                  go_still_tail 21, (by kernel_rfl)
                  change wpList _ _ _ _ _ wr.drew
                  have hB := hB.drew
                  have hbr3 := hbr3.drew
                  generalize wr.drew = wq at hB hbr3 ⊢
                  clear p0 p1 p2 p3 e0 e1 e2
                  go_wp2_with fail

                  refine (HHd.out _).mono ?_
                  rintro E w9 ⟨rfl, hb9⟩
                  have hB := below_on hB hb9
                  have hbr3 := below_on hbr3 hb9
                  all_goals
                    go_wp2_with fail
                    go_roundw
                    case rel => exact ⟨j + 1, hk1, by go_num, (by first | exact hbr3.drew | exact hbr3 | exact hbr3.drew.drew | exact below_drewN hbr3 _ | exact below_drewN hbr3.drew _), HN2⟩
                    case measure => first | (simp [intOf]; exact hmeas) | simpa [intOf] using hmeas
              · have HN2 := Lib.hid (HN.out (fun h => hxs (HX.out.1 h).1))
                have exs : (y == s) = false := by simpa using hxs
                clear hxs HN HT1 HX HHd
                go_wp2_with fail
                go_quiet (fail)
                have hbr4 := below_drewN hbr3 nq
                generalize wr.drewN nq = wq at hbr4 ⊢
                clear e0 e1 e2 p0 p1 p2 p3
                go_wp2_with fail
                go_roundw
                case rel => exact ⟨j + 1, hk1, by go_num, hbr4, HN2⟩
                case measure => first | (simp [intOf]; exact hmeas) | simpa [intOf] using hmeas
            · obtain rfl : j = l.length := by omega
              have HG : Hid (x ≤ V) := Lib.hid (HIx.out.2 ⟨HIs.out, HNs.out⟩)
              have hbr5 := below_on hbr hbr3
              have HG2 : Hid (x + 1 - 1 ≤ V) := Lib.hid (by have := HG.out; omega)
              have hx2 : x + 1 ≤ far + 1 := by omega
              have hx3 : 1 ≤ x + 1 := by omega
              have hmeas : (far + 1 - (x + 1)).toNat < (far + 1 - x).toNat := by omega
              clear HIx HXV HIFF HNs HC HL HW H1 H3 HIs HG
              go_wp2_with fail
              go_roundw
              case rel => exact ⟨x + 1, hx3, by go_num, hx2, HG2, hbr5⟩
              case measure => first | (simp [intOf]; exact hmeas) | simpa [intOf] using hmeas

        · have HR : Hid (far = V) := Lib.hid (by have h1 := HXV.out; have h2 := HVf.out; omega)
          have hbE := below_on hbo2 hbr
          clear HXV HIFF HC HL HW
          go_wp2_with fail
          go_ret2
          exact ⟨by rw [HR.out] <;> rfl, hbE⟩


end Go.Proofs.Ytacmeadmmjehmaa
