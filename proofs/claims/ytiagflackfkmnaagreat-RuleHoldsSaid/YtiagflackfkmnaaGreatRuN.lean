/-
  holdsAt of package rule. By an AI agent.
-/
import Derived.Test.YtiagflackfkmnaaGreatRuM
import Derived.Deep.RegionHeld3
import Derived.BigQuiet
import Derived.BigRegion
namespace Go.Proofs.YtiagflackfkmnaaGreat
set_option linter.unusedVariables false
set_option linter.unusedSimpArgs false
open Go.RowKit

/-- What holds behind a sign of the row, where v held. -/
def stpK (p : Pst) (t k v : Int) : Int := if endB p.s.k t = true then 0 else if topK p.s.k = t then (if p.u ≤ k then 0 else strK p.s.k p.s.v) else v
/-- What a row makes hold at a distance. -/
def hldL (t k : Int) : List Pst → Int → Int
  | [], v => v
  | p :: l, v => if k < p.d then v else hldL t k l (stpK p t k v)
theorem drop_gq (l : List Pst) {n : Nat} (h : n < l.length) : l.drop n = gq l n :: l.drop (n + 1) := by
  rw [List.drop_eq_getElem_cons h]; unfold gq; simp [h]
set_option maxRecDepth 100000 in
set_option maxHeartbeats 2000000 in
theorem holdsAt_r (aa : Option Addr) (l : List Pst) (ca : Nat) (t k : Int) (w : World) (hA : PstS w aa l) :
    Calls Tryz.prog 53 #[.slice aa l.length ca, .int .i64 t, .int .i64 k] w fun e w' => e = .returned (.int .i64 (hldL t k l 0)) ∧ Below w.heap.size w w' := by
  obtain ⟨hlen, blk, off, ad, cp, hadr, hc⟩ := hA
  have HC := Lib.hid hc
  have HL : Hid (0 < l.length → aa = some ⟨blk, off, none⟩) := Lib.hid fun h => hadr (pos_ne (n := 0) h)
  have HD : Hid (∀ n v, n < l.length → hldL t k (l.drop n) v = if k < (gq l n).d then v else hldL t k (l.drop (n + 1)) (stpK (gq l n) t k v)) := Lib.hid fun n v h => by rw [drop_gq l h]; rfl
  have H0 : Hid (l.drop 0 = l) := Lib.hid rfl
  have HEnd : Hid (∀ v, hldL t k (l.drop l.length) v = v) := Lib.hid fun v => by rw [List.drop_length]; rfl
  clear hc hadr
  go_enter Tryz.func53, Tryz.ntmps53
  go_wp2_with fail
  go_loopw [7, 12] (fun q i wr => ∃ (n : Nat) (v : Int), n ≤ l.length ∧ i = .int .i64 n ∧ q = .int .i64 v ∧ Below w.heap.size w wr ∧ Hid (hldL t k l 0 = hldL t k (l.drop n) v)) (fun _ i _ => l.length - (intOf i).toNat)
  case atStart => exact ⟨0, 0, Nat.zero_le _, rfl, rfl, Below.refl _ _, Lib.hid (by rw [H0.out])⟩
  case round =>
    obtain ⟨n, v, hn, rfl, rfl, hb, HV⟩ := hrel
    by_cases hlt : n < l.length
    · obtain rfl := HL.out (by omega)
      obtain ⟨⟨⟨c0, c1, c2, c3, c4, c5, c6, c7⟩, c8, c9, c10, c11⟩, -⟩ := HC.out n hlt
      have c0 := cell_below c0 hb
      have c1 := cell_below c1 hb
      have c2 := cell_below c2 hb
      have c3 := cell_below c3 hb
      have c4 := cell_below c4 hb
      have c5 := cell_below c5 hb
      have c6 := cell_below c6 hb
      have c7 := cell_below c7 hb
      have c8 := cell_below c8 hb
      have c9 := cell_below c9 hb
      have c10 := cell_below c10 hb
      have c11 := cell_below c11 hb
      have HX := Lib.hid (HV.out.trans (HD.out n v hlt))
      clear HC HL HD H0 HEnd HV
      generalize ad n = adk at *
      generalize cp n = cpk at *
      generalize gq l n = p at *
      have hbA := hb.size
      by_cases hkd : k < p.d
      · have HN := Lib.hid (HX.out.trans (if_pos hkd))
        have hkd0 : decide (k < p.d) = true := decide_eq_true hkd
        clear HX
        go_wp2_with fail
        go_ret
        exact ⟨by rw [HN.out]; rfl, hb.alloc hbA _⟩
      · have hkd0 : decide (k < p.d) = false := decide_eq_false hkd
        have HE := Lib.hid (fun W => isEnd_r p.s.k t W)
        have HT := Lib.hid (fun W => topicOf_r p.s.k W)
        have HSt := Lib.hid (fun W => started_r p adk cpk W)
        have hkd2 : p.d ≤ k := by omega
        cases he : endB p.s.k t with
        | true =>
          rw [he] at HE
          have es : stpK p t k v = 0 := by unfold stpK; rw [if_pos he]
          have HN : Hid (hldL t k l 0 = hldL t k (l.drop (n + 1)) (0)) := Lib.hid (by rw [HX.out, if_neg hkd, es])
          clear es
          clear HX hkd0
          go_wp2_with (first | (go_at_call 92; refine (HE.out _).mono ?_; rintro e w7 ⟨rfl, rfl⟩) | (go_at_call 87; refine (HT.out _).mono ?_; rintro e w7 ⟨rfl, rfl⟩) | (go_at_call 93; refine (HSt.out _).mono ?_; rintro e w7 ⟨rfl, hb7⟩))
          go_roundw
          case rel => exact ⟨n + 1, _, by omega, by go_num, rfl, hb.alloc hbA _, HN⟩
          case measure => simp [intOf]; omega
        | false =>
          rw [he] at HE
          have he2 : ¬ endB p.s.k t = true := by rw [he]; decide
          by_cases ht : topK p.s.k = t
          · rw [ht] at HT
            by_cases hu : p.u ≤ k
            · have hu2 : decide (p.u ≤ k) = true := decide_eq_true hu
              have es : stpK p t k v = 0 := by unfold stpK; rw [if_neg he2, if_pos ht, if_pos hu]
              have HN : Hid (hldL t k l 0 = hldL t k (l.drop (n + 1)) (0)) := Lib.hid (by rw [HX.out, if_neg hkd, es])
              clear es
              clear HX hkd0
              go_wp2_with (first | (go_at_call 92; refine (HE.out _).mono ?_; rintro e w7 ⟨rfl, rfl⟩) | (go_at_call 87; refine (HT.out _).mono ?_; rintro e w7 ⟨rfl, rfl⟩) | (go_at_call 93; refine (HSt.out _).mono ?_; rintro e w7 ⟨rfl, hb7⟩))
              go_roundw
              case rel => exact ⟨n + 1, _, by omega, by go_num, rfl, hb.alloc hbA _, HN⟩
              case measure => simp [intOf]; omega
            · have hu2 : decide (p.u ≤ k) = false := decide_eq_false hu
              have es : stpK p t k v = strK p.s.k p.s.v := by unfold stpK; rw [if_neg he2, if_pos ht, if_neg hu]
              have HN : Hid (hldL t k l 0 = hldL t k (l.drop (n + 1)) (strK p.s.k p.s.v)) := Lib.hid (by rw [HX.out, if_neg hkd, es])
              clear es
              clear HX hkd0
              go_wp2_with (first | (go_at_call 92; refine (HE.out _).mono ?_; rintro e w7 ⟨rfl, rfl⟩) | (go_at_call 87; refine (HT.out _).mono ?_; rintro e w7 ⟨rfl, rfl⟩) | (go_at_call 93; refine (HSt.out _).mono ?_; rintro e w7 ⟨rfl, hb7⟩))
              go_roundw
              case rel => exact ⟨n + 1, _, by omega, by go_num, rfl, (hb.alloc hbA _).trans (hb7.mono (by first | (simp; omega) | omega)), HN⟩
              case measure => simp [intOf]; omega
          · have ht2 : (topK p.s.k == t) = false := beq_false_of_ne ht
            have es : stpK p t k v = v := by unfold stpK; rw [if_neg he2, if_neg ht]
            have HN : Hid (hldL t k l 0 = hldL t k (l.drop (n + 1)) (v)) := Lib.hid (by rw [HX.out, if_neg hkd, es])
            clear es
            clear HX hkd0
            go_wp2_with (first | (go_at_call 92; refine (HE.out _).mono ?_; rintro e w7 ⟨rfl, rfl⟩) | (go_at_call 87; refine (HT.out _).mono ?_; rintro e w7 ⟨rfl, rfl⟩) | (go_at_call 93; refine (HSt.out _).mono ?_; rintro e w7 ⟨rfl, hb7⟩))
            go_roundw
            case rel => exact ⟨n + 1, _, by omega, by go_num, rfl, hb.alloc hbA _, HN⟩
            case measure => simp [intOf]; omega
    · obtain rfl : n = l.length := by omega
      have HN := Lib.hid (HV.out.trans (HEnd.out v))
      go_wp2_with fail
      go_ret
      exact ⟨by rw [HN.out]; rfl, hb⟩
end Go.Proofs.YtiagflackfkmnaaGreat
