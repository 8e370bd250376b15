/-
  The exhaustive search of the reference of package night. By an AI agent.
-/
import Derived.Test.YtghlhjiomebmhaaNiYp
import Derived.Test.YtghlhjiomebmhaaNiYb
import Derived.Deep.RegionHeld3
import Derived.BigQuiet
import Derived.StillTailTactics
import Derived.Deep.DeepCutAuto
import Derived.Lib.SliceRun
namespace Go.Proofs.Ytghlhjiomebmhaa
set_option linter.unusedVariables false
set_option linter.unusedSimpArgs false
open Go.RowKit

/-- A list that is there comes back. -/
def BtE (l : List Int) (w : World) (e : Ending) (w' : World) : Prop :=
  ∃ p c, e = .returned (.slice (some p) l.length c) ∧ IntsC w' (some p) l ∧ Below w.heap.size w w'
/-- No list, or one that is there. -/
def OutS (w : World) (v : Value) : Option (List Int) → Prop
  | none => v = .slice none 0 0
  | some l => ∃ p c, v = .slice (some p) l.length c ∧ IntsC w (some p) l
theorem OutS.below {w w' : World} {v : Value} {o : Option (List Int)} (h : OutS w v o) (hb : Below w.heap.size w w') : OutS w' v o := by
  cases o with
  | none => exact h
  | some l =>
    obtain ⟨p, c, h1, h2⟩ := h
    exact ⟨p, c, h1, h2.below hb⟩
def BestC (js : List Jo) (ns : List Ni) (m : Nat) : Prop := ∀ (ja : Option Addr) (jc : Nat) (na : Option Addr) (nc : Nat) (a : Option Addr) (l : List Int) (ca : Nat) (w : World), JobsS w ja js → NightsS w na ns → IntsC w a l → l.length + m = js.length → InRg ns.length l → (m = 0 → a ≠ none) →
    Calls Try.prog 48 #[.slice ja js.length jc, .slice na ns.length nc, .slice a l.length ca] w fun e w' => BtE (bstF js ns m l) w e w'
theorem bstK_none (js : List Jo) (ns : List Ni) (F : List Int → List Int) (pre : List Int) : bstK js ns F pre (ns.length + 1) ≠ none := by
  unfold bstK
  rw [if_neg (fun h => absurd h.1 (Nat.lt_irrefl _))]
  cases bstK js ns F pre ns.length with
  | none => intro h; cases h
  | some o =>
    show (if _ then _ else _) ≠ none
    split <;> simp
set_option maxRecDepth 100000 in
set_option maxHeartbeats 2000000 in
theorem best_0 (js : List Jo) (ns : List Ni) (hjl : js.length ≤ 1000) : BestC js ns 0 := by
  intro ja jc na nc a l ca w hJ hN hA hl hR ha
  obtain ⟨p, rfl⟩ : ∃ p, a = some p := by
    cases a with
    | none => exact absurd rfl (ha rfl)
    | some p => exact ⟨p, rfl⟩
  have d0 : ((l.length : Int) == (js.length : Int)) = true := by simp; omega
  have hp : Hid (IntsC w (some p) l) := Lib.hid hA
  clear hJ hN hA hR ha hl
  go_enter Try.func48, Try.ntmps48
  go_wp2_with fail
  go_ret
  exact ⟨p, ca, rfl, hp.out, Below.refl _ _⟩
/-- Whether a list has the length of the jobs. -/
theorem gi_chc (pre : List Int) (x : Int) : pre ++ [x] = pre ++ [x] := rfl
set_option maxRecDepth 100000 in
set_option maxHeartbeats 8000000 in
theorem best_s (js : List Jo) (ns : List Ni) (hjl : js.length ≤ 1000) (hnl : ns.length ≤ 1000) (m : Nat) (IH : BestC js ns m) : BestC js ns (m + 1) := by
  intro ja jc na nc a l ca w hJ hN hA hl hR ha
  have d0 : ((l.length : Int) == (js.length : Int)) = false := beq_false_of_ne (by omega)
  have HA := Lib.hid (fun W (hW : Below w.heap.size w W) => hA.below hW)
  have HRt := Lib.hid (fun W (hW : Below w.heap.size w W) (a : Option Addr) (l : List Int) (ca : Nat) (hA : IntsC W a l) (h : l.length ≤ js.length) => right_r ja js jc na ns nc a l ca W (hJ.below hW) (hN.below hW) hA h hjl)
  have HIh := Lib.hid (fun W (hW : Below w.heap.size w W) (g : Addr) (x : Int) (ca : Nat) (hA : IntsC W (some g) (l ++ [x])) (hx : -1 ≤ x ∧ x < ns.length) => IH ja jc na nc (some g) (l ++ [x]) ca W (hJ.below hW) (hN.below hW) hA (by rw [List.length_append]; simp; omega) (fun i hi => by
    rw [List.length_append] at hi
    simp at hi
    rw [gi_app]
    by_cases c : i < l.length
    · rw [if_pos c]; exact hR i c
    · rw [if_neg c, if_pos (by omega)]; exact hx) (fun _ => by simp))
  have HS : Hid (∀ k, bstK js ns (bstF js ns m) l (k + 1) = if k < ns.length ∧ rgtB js ns (l ++ [chcN ns.length k]) = false then bstK js ns (bstF js ns m) l k else
    match bstK js ns (bstF js ns m) l k with
    | none => some (bstF js ns m (l ++ [chcN ns.length k]))
    | some o => if dnK o o.length < dnK (bstF js ns m (l ++ [chcN ns.length k])) (bstF js ns m (l ++ [chcN ns.length k])).length then some (bstF js ns m (l ++ [chcN ns.length k])) else some o) := Lib.hid fun k => rfl
  have HS0 : Hid (bstK js ns (bstF js ns m) l 0 = none) := Lib.hid rfl
  have HSn := Lib.hid (bstK_none js ns (bstF js ns m) l)
  have HD : Hid (bstF js ns (m + 1) l = (bstK js ns (bstF js ns m) l (ns.length + 1)).getD []) := Lib.hid rfl
  have HL := Lib.hid hl
  have hll : l.length < js.length := by omega
  clear hJ hN hA hR ha hl IH
  generalize bstF js ns (m + 1) l = RR at *
  generalize bstK js ns (bstF js ns m) l = K at *
  generalize bstF js ns m = F at *
  go_enter Try.func48, Try.ntmps48
  go_wp2_with fail
  go_loopw [7, 8] (fun v i wr => ∃ k : Nat, k ≤ ns.length + 1 ∧ i = .int .i64 k ∧ OutS wr v (K k) ∧ Below w.heap.size w wr) (fun _ i _ => ns.length + 1 - (intOf i).toNat)
  case atStart => exact ⟨0, Nat.zero_le _, rfl, by rw [HS0.out]; rfl, Below.refl _ _⟩
  case round =>
    obtain ⟨k, hk, rfl, hO, hb⟩ := hrel
    by_cases hlt : k < ns.length + 1
    · have hSk := Lib.hid (HS.out k)
      have hO := Lib.hid hO
      clear HS HS0 HSn HD
      by_cases hkn : k < ns.length
      · have kn : ((k : Int) == (ns.length : Int)) = false := beq_false_of_ne (by omega)
        have hch : chcN ns.length k = (k : Int) := by unfold chcN; rw [if_pos hkn]
        rw [hch] at hSk
        have hx : -1 ≤ (k : Int) ∧ (k : Int) < ns.length := by omega
        have HX := Lib.hid hx
        clear hch hx
        obtain ⟨x, hxk⟩ : ∃ x : Int, (k : Int) = x := ⟨_, rfl⟩
        clear hxk x
        have HE := Lib.hid (World.ownsRow_made (base := wr.heap.size) (e := 3) (size := 1) wr #[] 0 (Nat.le_refl _) (Nat.zero_le _) (by simp))
        have HPI := Lib.hid ((HA.out wr hb).below ((Below.refl wr.heap.size wr).alloc (Nat.le_refl _) (.cells #[] 3)))
        have HB6 := Lib.hid ((Below.refl wr.heap.size wr).alloc (Nat.le_refl _) (.cells #[] 3))
        go_upto_region 11 with (first
          | (at_builtin; (refine app_ints _ (by rfl) _ _ (by rfl) wr.heap.size (some ⟨wr.heap.size, 0, none⟩) 0 0 [] (by rfl) HE.out a l ca (by rfl) HPI.out (by omega) (by simp) ?_); intro b9 c9 wg hown9 hb9
             have hbg : Below wr.heap.size wr wg := HB6.out.trans hb9
             have hown9 : Hid (wg.ownsRow wr.heap.size 3 1 (.slice b9 l.length c9) l.length (clI l)) := Lib.hid (by simpa using hown9)
             have hzl : 0 + l.length = l.length := by omega
             rw [hzl]
             clear hzl hb9)
          | (at_builtin; (refine app_int (by rfl) _ _ (by rfl) wr.heap.size l.length c9 b9 _ (by rfl) (Lib.hid (hown9.out.alloc (.cells #[.int .i64 k] 3))).out wg.heap.size (.int .i64 k) (by rfl) (by simp [go_sem]) (by rfl) (by omega) (by have := hbg.size; simp; omega) ?_); intro g6 c6 w6 hown6 hb6))
        have hb6 : Below wr.heap.size wr w6 := (hbg.alloc hbg.size _).trans hb6
        have hlx : (l ++ [(k : Int)]).length = l.length + 1 := by simp
        obtain ⟨g7, hg7, hg8, hg9, hP6⟩ := planR_own (b := some ⟨g6, 0, none⟩) (l := l ++ [(k : Int)]) (c := c6) (base := wr.heap.size) (w := w6) (by rw [hlx, clI_app]; exact hown6) (by simp)
        have hPn : IntsC w6 (some ⟨g6, 0, none⟩) (l ++ [(k : Int)]) := by
          obtain rfl : g6 = g7 := by simpa using hg7
          exact hP6.ints (by rw [hlx]; omega)
        have hbw := below_onN hb hb6 hb.size
        have hO := hO.out.below hb6
        have HRx := Lib.hid (HRt.out w6 hbw (some ⟨g6, 0, none⟩) (l ++ [(k : Int)]) c6 hPn (by rw [hlx]; omega))
        have HLX := Lib.hid hlx
        rw [hlx] at HRx
        clear hown6 hown9 HE HPI HB6 hbg hg7 hg8 hg9 hP6 hlx hb6 HA
        cases hrg : rgtB js ns (l ++ [(k : Int)]) with
        | false =>
          have hS1 : Hid (K (k + 1) = K k) := Lib.hid (by rw [hSk.out, if_pos ⟨hkn, hrg⟩])
          rw [hrg] at HRx
          clear hSk hrg
          go_wp2_with fail
          refine HRx.out.mono ?_
          rintro e wi ⟨rfl, hbi⟩
          have hO := hO.below hbi
          have hbz := below_onN hbw hbi hbw.size
          clear hbi HRx
          go_wp2_with fail
          go_roundw
          case rel => exact ⟨k + 1, by omega, by go_num, by rw [hS1.out]; exact hO, hbz⟩
          case measure => first | (simp [intOf]; omega) | simp [intOf]
        | true =>
          rw [hrg] at HRx
          have hS1 : Hid (K (k + 1) = match K k with
            | none => some (F (l ++ [(k : Int)]))
            | some o => if dnK o o.length < dnK (F (l ++ [(k : Int)])) (F (l ++ [(k : Int)])).length then some (F (l ++ [(k : Int)])) else some o) := Lib.hid (by rw [hSk.out, if_neg (by rw [hrg]; simp)])
          clear hSk hrg
          go_wp2_with fail
          refine HRx.out.mono ?_
          rintro e wi ⟨rfl, hbi⟩
          have hO := hO.below hbi
          have hPn := hPn.below hbi
          have hbw := below_onN hbw hbi hbw.size
          clear hbi HRx
          have HI := Lib.hid (HIh.out wi hbw ⟨g6, 0, none⟩ k c6 hPn HX.out)
          rw [HLX.out] at HI
          generalize F (l ++ [(k : Int)]) = RN at *
          clear hPn HIh HX HLX
          go_wp2_with fail
          refine HI.out.mono ?_
          rintro e wj ⟨pj, cj, rfl, hPj, hbj⟩
          have hO := hO.below hbj
          have hbw := below_onN hbw hbj hbw.size
          clear hbj HI
          have HN1 := Lib.hid (refDone_v (some pj) RN cj wj hPj)
          cases hKk : K k with
          | none =>
            rw [hKk] at hO hS1
            obtain rfl := hO
            have hPj := Lib.hid hPj
            clear HN1 hKk
            have hz0 : ∀ W, (binOp .eql 26 (.slice none 0 0) (.slice none 0 0)).run Try.prog W = .ok (.bool true) W := fun W => Lib.run_eql_slice_nil W _ _ none 0 0 0 0 undRow
            go_wp2_with fail
            go_roundw
            case rel => exact ⟨k + 1, by omega, by go_num, by rw [hS1.out]; exact ⟨pj, cj, rfl, hPj.out⟩, hbw⟩
            case measure => first | (simp [intOf]; omega) | simp [intOf]
          | some o =>
            rw [hKk] at hO hS1
            obtain ⟨po, co, rfl, hPo⟩ := hO
            have HN2 := Lib.hid (refDone_v (some po) o co wj hPo)
            have hPj := Lib.hid hPj
            have hPo := Lib.hid hPo
            clear hKk
            have hz0 : ∀ W, (binOp .eql 26 (.slice (some po) o.length co) (.slice none 0 0)).run Try.prog W = .ok (.bool false) W := fun W => Lib.run_eql_slice_nil W _ _ (some po) _ _ 0 0 undRow
            by_cases hd : dnK o o.length < dnK RN RN.length
            · have hS2 : Hid (K (k + 1) = some RN) := Lib.hid (by rw [hS1.out]; exact if_pos hd)
              generalize dnK o o.length = D1 at *
              generalize dnK RN RN.length = D2 at *
              have dd : decide (D1 < D2) = true := decide_eq_true hd
              clear hS1
              go_wp2_with fail
              refine HN1.out.mono ?_
              rintro e wk ⟨rfl, rfl⟩
              go_wp2_with fail
              refine HN2.out.mono ?_
              rintro e wk ⟨rfl, rfl⟩
              go_wp2_with fail
              go_roundw
              case rel => exact ⟨k + 1, by omega, by go_num, by rw [hS2.out]; exact ⟨pj, cj, rfl, hPj.out⟩, hbw⟩
              case measure => first | (simp [intOf]; omega) | simp [intOf]
            · have hS2 : Hid (K (k + 1) = some o) := Lib.hid (by rw [hS1.out]; exact if_neg hd)
              generalize dnK o o.length = D1 at *
              generalize dnK RN RN.length = D2 at *
              have dd : decide (D1 < D2) = false := decide_eq_false hd
              clear hS1
              go_wp2_with fail
              refine HN1.out.mono ?_
              rintro e wk ⟨rfl, rfl⟩
              go_wp2_with fail
              refine HN2.out.mono ?_
              rintro e wk ⟨rfl, rfl⟩
              go_wp2_with fail
              go_roundw
              case rel => exact ⟨k + 1, by omega, by go_num, by rw [hS2.out]; exact ⟨po, co, rfl, hPo.out⟩, hbw⟩
              case measure => first | (simp [intOf]; omega) | simp [intOf]
      · obtain rfl : k = ns.length := by omega
        have kn : ((ns.length : Int) == (ns.length : Int)) = true := by simp
        have hch : chcN ns.length ns.length = (-1 : Int) := by unfold chcN; rw [if_neg (by omega)]
        rw [hch] at hSk
        have hx : -1 ≤ (-1 : Int) ∧ (-1 : Int) < ns.length := by omega
        have HX := Lib.hid hx
        clear hch hx
        have HE := Lib.hid (World.ownsRow_made (base := wr.heap.size) (e := 3) (size := 1) wr #[] 0 (Nat.le_refl _) (Nat.zero_le _) (by simp))
        have HPI := Lib.hid ((HA.out wr hb).below ((Below.refl wr.heap.size wr).alloc (Nat.le_refl _) (.cells #[] 3)))
        have HB6 := Lib.hid ((Below.refl wr.heap.size wr).alloc (Nat.le_refl _) (.cells #[] 3))
        go_upto_region 11 with (first
          | (at_builtin; (refine app_ints _ (by rfl) _ _ (by rfl) wr.heap.size (some ⟨wr.heap.size, 0, none⟩) 0 0 [] (by rfl) HE.out a l ca (by rfl) HPI.out (by omega) (by simp) ?_); intro b9 c9 wg hown9 hb9
             have hbg : Below wr.heap.size wr wg := HB6.out.trans hb9
             have hown9 : Hid (wg.ownsRow wr.heap.size 3 1 (.slice b9 l.length c9) l.length (clI l)) := Lib.hid (by simpa using hown9)
             have hzl : 0 + l.length = l.length := by omega
             rw [hzl]
             clear hzl hb9)
          | (at_builtin; (refine app_int (by rfl) _ _ (by rfl) wr.heap.size l.length c9 b9 _ (by rfl) (Lib.hid (hown9.out.alloc (.cells #[.int .i64 (-1)] 3))).out wg.heap.size (.int .i64 (-1)) (by rfl) (by simp [go_sem]) (by rfl) (by omega) (by have := hbg.size; simp; omega) ?_); intro g6 c6 w6 hown6 hb6))
        have hb6 : Below wr.heap.size wr w6 := (hbg.alloc hbg.size _).trans hb6
        have hlx : (l ++ [((-1) : Int)]).length = l.length + 1 := by simp
        obtain ⟨g7, hg7, hg8, hg9, hP6⟩ := planR_own (b := some ⟨g6, 0, none⟩) (l := l ++ [((-1) : Int)]) (c := c6) (base := wr.heap.size) (w := w6) (by rw [hlx, clI_app]; exact hown6) (by simp)
        have hPn : IntsC w6 (some ⟨g6, 0, none⟩) (l ++ [((-1) : Int)]) := by
          obtain rfl : g6 = g7 := by simpa using hg7
          exact hP6.ints (by rw [hlx]; omega)
        have hbw := below_onN hb hb6 hb.size
        have hO := hO.out.below hb6
        have HRx := Lib.hid (HRt.out w6 hbw (some ⟨g6, 0, none⟩) (l ++ [((-1) : Int)]) c6 hPn (by rw [hlx]; omega))
        have HLX := Lib.hid hlx
        rw [hlx] at HRx
        clear hown6 hown9 HE HPI HB6 hbg hg7 hg8 hg9 hP6 hlx hb6 HA
        have hS1 : Hid (K (ns.length + 1) = match K ns.length with
          | none => some (F (l ++ [(-1 : Int)]))
          | some o => if dnK o o.length < dnK (F (l ++ [(-1 : Int)])) (F (l ++ [(-1 : Int)])).length then some (F (l ++ [(-1 : Int)])) else some o) := Lib.hid (by rw [hSk.out, if_neg (fun h => absurd h.1 (Nat.lt_irrefl _))])
        clear hSk HRx
        have HI := Lib.hid (HIh.out w6 hbw ⟨g6, 0, none⟩ (-1) c6 hPn HX.out)
        rw [HLX.out] at HI
        generalize F (l ++ [((-1) : Int)]) = RN at *
        clear hPn HIh HX HLX
        go_wp2_with fail
        refine HI.out.mono ?_
        rintro e wj ⟨pj, cj, rfl, hPj, hbj⟩
        have hO := hO.below hbj
        have hbw := below_onN hbw hbj hbw.size
        clear hbj HI
        have HN1 := Lib.hid (refDone_v (some pj) RN cj wj hPj)
        cases hKk : K ns.length with
        | none =>
          rw [hKk] at hO hS1
          obtain rfl := hO
          have hPj := Lib.hid hPj
          clear HN1 hKk
          have hz0 : ∀ W, (binOp .eql 26 (.slice none 0 0) (.slice none 0 0)).run Try.prog W = .ok (.bool true) W := fun W => Lib.run_eql_slice_nil W _ _ none 0 0 0 0 undRow
          go_wp2_with fail
          go_roundw
          case rel => exact ⟨ns.length + 1, by omega, by go_num, by rw [hS1.out]; exact ⟨pj, cj, rfl, hPj.out⟩, hbw⟩
          case measure => first | (simp [intOf]; omega) | simp [intOf]
        | some o =>
          rw [hKk] at hO hS1
          obtain ⟨po, co, rfl, hPo⟩ := hO
          have HN2 := Lib.hid (refDone_v (some po) o co wj hPo)
          have hPj := Lib.hid hPj
          have hPo := Lib.hid hPo
          clear hKk
          have hz0 : ∀ W, (binOp .eql 26 (.slice (some po) o.length co) (.slice none 0 0)).run Try.prog W = .ok (.bool false) W := fun W => Lib.run_eql_slice_nil W _ _ (some po) _ _ 0 0 undRow
          by_cases hd : dnK o o.length < dnK RN RN.length
          · have hS2 : Hid (K (ns.length + 1) = some RN) := Lib.hid (by rw [hS1.out]; exact if_pos hd)
            generalize dnK o o.length = D1 at *
            generalize dnK RN RN.length = D2 at *
            have dd : decide (D1 < D2) = true := decide_eq_true hd
            clear hS1
            go_wp2_with fail
            refine HN1.out.mono ?_
            rintro e wk ⟨rfl, rfl⟩
            go_wp2_with fail
            refine HN2.out.mono ?_
            rintro e wk ⟨rfl, rfl⟩
            go_wp2_with fail
            go_roundw
            case rel => exact ⟨ns.length + 1, by omega, by go_num, by rw [hS2.out]; exact ⟨pj, cj, rfl, hPj.out⟩, hbw⟩
            case measure => first | (simp [intOf]; omega) | simp [intOf]
          · have hS2 : Hid (K (ns.length + 1) = some o) := Lib.hid (by rw [hS1.out]; exact if_neg hd)
            generalize dnK o o.length = D1 at *
            generalize dnK RN RN.length = D2 at *
            have dd : decide (D1 < D2) = false := decide_eq_false hd
            clear hS1
            go_wp2_with fail
            refine HN1.out.mono ?_
            rintro e wk ⟨rfl, rfl⟩
            go_wp2_with fail
            refine HN2.out.mono ?_
            rintro e wk ⟨rfl, rfl⟩
            go_wp2_with fail
            go_roundw
            case rel => exact ⟨ns.length + 1, by omega, by go_num, by rw [hS2.out]; exact ⟨po, co, rfl, hPo.out⟩, hbw⟩
            case measure => first | (simp [intOf]; omega) | simp [intOf]
    · obtain rfl : k = ns.length + 1 := by omega
      cases hK : K (ns.length + 1) with
      | none => exact absurd hK HSn.out
      | some o =>
        rw [hK] at hO HD
        obtain ⟨p, c, rfl, hP⟩ := hO
        have HR : Hid (RR = o) := Lib.hid HD.out
        have hP := Lib.hid hP
        clear HS HS0 HSn HD hK
        go_wp2_with fail
        go_ret
        exact ⟨p, c, by rw [HR.out]; rfl, by rw [HR.out]; exact hP.out, hb⟩
theorem best_all (js : List Jo) (ns : List Ni) (hjl : js.length ≤ 1000) (hnl : ns.length ≤ 1000) : ∀ m, BestC js ns m
  | 0 => best_0 js ns hjl
  | m + 1 => best_s js ns hjl hnl m (best_all js ns hjl hnl m)
end Go.Proofs.Ytghlhjiomebmhaa
