/-
  The reference's stretches, Held and Wanted. By an AI agent.; The law RuleHolds. By an AI agent.; The law RuleHeld. By an AI agent.; Arguments, opened: lists of ints and of pairs, tables, scenes, structs of them, arrays. By an AI agent.
-/
import Derived.Test.YtiagflackfkmnaaGreatMgRuleHeld0
import Derived.Test.YtiagflackfkmnaaGreatMgRuleHeld7
import Derived.Test.YtiagflackfkmnaaGreatMgRuleHeld11
import Derived.Test.YtiagflackfkmnaaGreatMgRuleHeld12
import Derived.Deep.RegionHeld3
import Derived.Deep.AppendLies
import Derived.BigQuiet
import Derived.BigRegion
import Derived.Deep.DeepCutAuto
import Derived.StillTailTactics
import Derived.Lib.SmallJoins
import Derived.Deep.Slices
import Derived.OpenShut

namespace Go.Proofs.YtiagflackfkmnaaGreat
set_option linter.unusedVariables false
set_option linter.unusedSimpArgs false
open Go.RowKit

theorem strV_len {V : Type} [DecidableEq V] [Inhabited V] (sk : V → Bool) (f : Int → V) : ∀ n, (strV sk f n).length ≤ n
  | 0 => by simp [strV]
  | n + 1 => by
    have := strV_len sk f n
    rw [strV]
    unfold st1V
    split
    · omega
    · split
      · rw [List.length_set]; omega
      · simp; omega
theorem st1_skip {S : List Tri} {m v : Int} (h : (v == 0) = true) : st1V (fun v : Int => v == 0) S m v = S := by unfold st1V; rw [if_pos h]
theorem st1_new {S : List Tri} {m v : Int} {u : Nat} (h : (v == 0) = false) (hu : S.length = u + 1) (hc : ¬ ((gt3 S u).2.1 = m ∧ (gt3 S u).2.2 = v)) : st1V (fun v : Int => v == 0) S m v = S ++ [(m, m + 1, v)] := by
  unfold st1V
  rw [if_neg (by simp [h]), if_neg]
  rintro ⟨-, h1, h2⟩
  rw [show S.length - 1 = u by omega] at h1 h2
  exact hc ⟨h1, h2⟩
theorem st1_more {S : List Tri} {m v : Int} {u : Nat} (h : (v == 0) = false) (hu : S.length = u + 1) (h1 : (gt3 S u).2.1 = m) (h2 : (gt3 S u).2.2 = v) : st1V (fun v : Int => v == 0) S m v = S.set u ((gt3 S u).1, m + 1, v) := by
  unfold st1V
  have e : S.length - 1 = u := by omega
  rw [if_neg (by simp [h]), e, if_pos ⟨by omega, h1, h2⟩]
  rfl
/-- Stretches come back. -/
def StrA (M : List Tri) (w : World) (e : Ending) (w' : World) : Prop := ∃ b c, e = .returned (.slice b M.length c) ∧ TriS w' b M ∧ Below w.heap.size w w'
set_option maxRecDepth 100000 in
set_option maxHeartbeats 4000000 in
theorem refStretches_r (a : Option Addr) (l : List Int) (ca : Nat) (hn : l.length ≤ 100000) (w : World) (hI : IntsS w a l) :
    Calls Tryz.prog 61 #[.slice a l.length ca] w (StrA (strV (fun v : Int => v == 0) (fun m => gi l m.toNat) l.length) w) := by
  obtain ⟨-, -, blk, off, hadr, hc⟩ := hI
  have HC := Lib.hid hc
  have HL : Hid (0 < l.length → a = some ⟨blk, off, none⟩) := Lib.hid fun h => hadr (List.ne_nil_of_length_pos h)
  have HLen := Lib.hid (strV_len (fun v : Int => v == 0) (fun m => gi l m.toNat))
  have HStep : Hid (∀ k : Nat, strV (fun v : Int => v == 0) (fun m => gi l m.toNat) (k + 1) = st1V (fun v : Int => v == 0) (strV (fun v : Int => v == 0) (fun m => gi l m.toNat) k) k (gi l k)) := Lib.hid fun k => rfl
  obtain ⟨n0, hi, hz0, hz1, hz2⟩ := info_parts heldInfo
  generalize strV (fun v : Int => v == 0) (fun m => gi l m.toNat) = MM at *
  clear hc hadr
  have HM0 : Hid (MM 0 = []) := Lib.hid (List.eq_nil_of_length_eq_zero (Nat.le_zero.1 (HLen.out 0)))
  go_enter Tryz.func61, Tryz.ntmps61
  go_wp2_with fail
  go_loopw [3, 4] (fun q i9 wr => ∃ k : Nat, k ≤ l.length ∧ i9 = .int .i64 k ∧ (∃ a c, q = .slice a (MM k).length c) ∧ Hid (wr.ownsRow w.heap.size 75 3 q (MM k).length (cl3 (MM k))) ∧ Below w.heap.size w wr) (fun _ i9 _ => l.length - (intOf i9).toNat)
  case atStart => exact ⟨0, Nat.zero_le _, rfl, ⟨none, 0, by rw [HM0.out]; rfl⟩, Lib.hid (by rw [HM0.out]; exact ⟨rfl, .inl ⟨rfl, rfl⟩⟩), Below.refl _ _⟩
  case round =>
    obtain ⟨k, hk, rfl, ⟨av, cv, rfl⟩, HRow, hbr⟩ := hrel
    have hkl := HLen.out k
    by_cases hlt : k < l.length
    · obtain rfl := HL.out (by omega)
      have c0 := cell_below (HC.out k hlt) hbr
      have HN := Lib.hid (HStep.out k)
      have g1 : (k : Int) < (l.length : Int) := by omega
      have hkw : IntKind.i64.wrap ((k : Int) + 1) = (k : Int) + 1 := IntWalk.i64_in _ (by omega)
      clear HC HL HStep HLen HM0
      generalize gi l k = v at *
      obtain ⟨S, hS⟩ : ∃ S, MM k = S := ⟨_, rfl⟩
      obtain ⟨S1, hS1⟩ : ∃ S1, MM (k + 1) = S1 := ⟨_, rfl⟩
      rw [hS, hS1] at HN
      rw [hS] at HRow hkl ⊢
      have HS1 := Lib.hid hS1
      clear hS hS1
      by_cases hv : (v == 0) = true
      · have HE : Hid (MM (k + 1) = S) := Lib.hid (by rw [HS1.out, HN.out, st1_skip hv])
        clear HN HS1
        go_wp2_with fail
        go_roundw
        case rel => exact ⟨k + 1, by omega, by go_num, ⟨av, cv, by rw [HE.out]⟩, Lib.hid (by rw [HE.out]; exact HRow.out), hbr⟩
        case measure => simp [intOf]; omega
      · have hv : (v == 0) = false := by simpa using hv
        by_cases h0 : S.length = 0
        · have hS0 := List.eq_nil_of_length_eq_zero h0
          subst hS0
          have HAP : Hid (MM (k + 1) = [((k : Int), (k : Int) + 1, v)]) := Lib.hid (by
            rw [HS1.out, HN.out]; unfold st1V; rw [if_neg (by simp [hv]), if_neg (by simp)]; rfl)
          clear HN HS1
          have HAP : Hid (0 + 1 = (MM (k + 1)).length ∧ ([] : List Value) ++ [.int .i64 k, .int .i64 ((k : Int) + 1), .int .i64 v] = cl3 (MM (k + 1))) := Lib.hid (by rw [HAP.out]; exact ⟨rfl, rfl⟩)
          have HRow : Hid (wr.ownsRow w.heap.size 75 3 (.slice av 0 cv) 0 []) := HRow
          clear h0
          go_wp2_with fail
          go_quiet (fail)
          have hbA := below_drewN hbr nq
          have HRow := Lib.hid (owns_belowI HRow.out (below_drewN (Below.refl wr.heap.size wr) nq))
          replace c0 := cell_below c0 (below_drewN (Below.refl wr.heap.size wr) nq)
          generalize wr.drewN nq = wA at hbA HRow c0 ⊢
          have hown := Lib.hid (HRow.out.alloc (.cells #[.int .i64 k, .int .i64 ((k : Int) + 1), .int .i64 v] 75))
          have hbs := hbA.size
          go_wp2_with (first | (at_builtin; go_loud (refine wpList_append_lies _ rfl _ _ 47 rfl w.heap.size 75 n0 _ 3 24 Tryz.underlying47 hi hz0 hz1 hz2 rfl (by decide) (.slice _ 0 cv) 0 _ (by rfl) hown.out ⟨wA.heap.size, 0, none⟩ 1 1 [.int .i64 k, .int .i64 ((k : Int) + 1), .int .i64 v] (by rfl) (by rfl) ?d1 ?d2 (by decide) ?d3 ?d4 ?d5 _ rfl ?_)))
          case d1 =>
            refine World.news_of_block (cs := #[.int .i64 k, .int .i64 ((k : Int) + 1), .int .i64 v]) (t := 75) (fr := (0, 0)) ?_
            exact heap_alloc_new _ _
          case d2 => simp [Value.oneCell']
          case d3 => unfold maxLen; omega
          case d4 => omega
          case d5 => first | (simp; omega) | simp | omega
          intro g6 c6 w6 hown6 hgrow6 hat6 hlt6
          have hb6 : Below w.heap.size w w6 := ((hbA.alloc hbs _).grown hgrow6 (by first | (simp; omega) | simp | omega) (fun z hz => owns_blockI hown.out hz))
          go_wp2_with fail
          go_roundw
          case rel => exact ⟨k + 1, by omega, by go_num, ⟨_, c6, by rw [← HAP.out.1]⟩, Lib.hid (by rw [← HAP.out.1, ← HAP.out.2]; exact hown6), hb6⟩
          case measure => simp [intOf]; omega
        · obtain ⟨u, hu⟩ : ∃ u, S.length = u + 1 := ⟨S.length - 1, by omega⟩
          have hui : (S.length : Int) - 1 = (u : Int) := by omega
          have hu0 : (0 : Int) ≤ (u : Int) := by omega
          have hu2 : u < S.length := by omega
          have hu3 : (u : Int) < (S.length : Int) := by omega
          have hu4 : 0 < S.length := by omega
          have huw : IntKind.i64.wrap ((S.length : Int) - 1) = (u : Int) := by rw [hui]; exact IntWalk.i64_in _ (by omega)
          obtain ⟨gj, hgj⟩ : ∃ gj, av = some ⟨gj, 0, none⟩ := by
            rcases HRow.out.2 with ⟨h1, h2⟩ | ⟨g2, c2, cur, h1, _⟩
            · omega
            · exact ⟨g2, by simpa using (Value.slice.inj h1).1⟩
          subst hgj
          have cy := World.ownsRow.cellAt HRow.out (u * 3 + 2) (by omega)
          rw [(cl3_c S u (by omega)).2.2] at cy
          have cx := World.ownsRow.cellAt HRow.out (u * 3 + 1) (by omega)
          rw [(cl3_c S u (by omega)).2.1] at cx
          have hgl : w.heap.size ≤ gj := by
            rcases HRow.out.2 with ⟨h1, h2⟩ | ⟨g2, c2, cur, h1, h2, _⟩
            · omega
            · have : gj = g2 := by simpa using (Value.slice.inj h1).1
              omega
          have HSE := Lib.hid (cl3_set S u ((k : Int) + 1) (by omega))
          have HU := Lib.hid hu
          clear hu h0 hui
          by_cases hto : (gt3 S u).2.1 = k
          · by_cases hx : (gt3 S u).2.2 = v
            · have HNn : Hid (MM (k + 1) = S.set u ((gt3 S u).1, (k : Int) + 1, (gt3 S u).2.2)) := Lib.hid (by rw [HS1.out, HN.out, st1_more hv HU.out hto hx, hx])
              have HST : Hid (∀ W : World, W.ownsRow w.heap.size 75 3 (.slice (some ⟨gj, 0, none⟩) S.length cv) S.length (cl3 S) → (W.setCell ⟨gj, u * 3 + 1, none⟩ (.int .i64 ((k : Int) + 1))).ownsRow w.heap.size 75 3 (.slice (some ⟨gj, 0, none⟩) (MM (k + 1)).length cv) (MM (k + 1)).length (cl3 (MM (k + 1)))) := Lib.hid fun W h => by
                rw [HNn.out, List.length_set, ← HSE.out]
                exact (World.ownsRow.stored h (u * 3 + 1) (.int .i64 ((k : Int) + 1))).1
              have HLn : Hid ((MM (k + 1)).length = S.length) := Lib.hid (by rw [HNn.out, List.length_set])
              have d1 : ((k : Int) == k) = true := by simp
              have d2 : (v == v) = true := by simp
              have HTO := Lib.hid hto
              rw [hto] at cx
              rw [hx] at cy
              clear HNn HSE HN HS1 hto hx
              go_wp2_with fail
              go_quiet (fail)
              have hbA := below_drewN hbr nq
              have HRow := Lib.hid (owns_belowI HRow.out (below_drewN (Below.refl wr.heap.size wr) nq))
              replace c0 := cell_below c0 (below_drewN (Below.refl wr.heap.size wr) nq)
              generalize wr.drewN nq = wA at hbA HRow c0 ⊢
              have cx := (World.ownsRow.cellAt HRow.out (u * 3 + 1) (by have := HU.out; omega))
              rw [(cl3_c S u (by omega)).2.1, HTO.out] at cx
              have fx := World.ownsRow.frozenAt HRow.out (u * 3 + 1)
              go_wp2_with fail
              go_roundw
              case rel => exact ⟨k + 1, by omega, by go_num, ⟨_, cv, by rw [HLn.out]⟩, Lib.hid (by have := HST.out _ HRow.out; rwa [HLn.out] at this ⊢), hbA.setCell (p := ⟨gj, u * 3 + 1, none⟩) hgl _⟩
              case measure => simp [intOf]; omega
            · have HAP : Hid (S.length + 1 = (MM (k + 1)).length ∧ cl3 S ++ [.int .i64 k, .int .i64 ((k : Int) + 1), .int .i64 v] = cl3 (MM (k + 1))) := Lib.hid (by rw [HS1.out, HN.out, st1_new hv HU.out (fun h => hx h.2), cl3_app]; exact ⟨by simp, rfl⟩)
              have d1 : ((k : Int) == k) = true := by simp
              have d2 : ((gt3 S u).2.2 == v) = false := beq_false_of_ne hx
              rw [hto] at cx
              clear hto hx HN HS1 HSE
              generalize (gt3 S u).2.2 = q at *
              go_wp2_with fail
              go_quiet (fail)
              have hbA := below_drewN hbr nq
              have HRow := Lib.hid (owns_belowI HRow.out (below_drewN (Below.refl wr.heap.size wr) nq))
              replace c0 := cell_below c0 (below_drewN (Below.refl wr.heap.size wr) nq)
              generalize wr.drewN nq = wA at hbA HRow c0 ⊢
              have hown := Lib.hid (HRow.out.alloc (.cells #[.int .i64 k, .int .i64 ((k : Int) + 1), .int .i64 v] 75))
              have hbs := hbA.size
              go_wp2_with (first | (at_builtin; go_loud (refine wpList_append_lies _ rfl _ _ 47 rfl w.heap.size 75 n0 _ 3 24 Tryz.underlying47 hi hz0 hz1 hz2 rfl (by decide) (.slice _ S.length cv) S.length _ (by rfl) hown.out ⟨wA.heap.size, 0, none⟩ 1 1 [.int .i64 k, .int .i64 ((k : Int) + 1), .int .i64 v] (by rfl) (by rfl) ?d1 ?d2 (by decide) ?d3 ?d4 ?d5 _ rfl ?_)))
              case d1 =>
                refine World.news_of_block (cs := #[.int .i64 k, .int .i64 ((k : Int) + 1), .int .i64 v]) (t := 75) (fr := (0, 0)) ?_
                exact heap_alloc_new _ _
              case d2 => simp [Value.oneCell']
              case d3 => unfold maxLen; omega
              case d4 => omega
              case d5 => first | (simp; omega) | simp | omega
              intro g6 c6 w6 hown6 hgrow6 hat6 hlt6
              have hb6 : Below w.heap.size w w6 := ((hbA.alloc hbs _).grown hgrow6 (by first | (simp; omega) | simp | omega) (fun z hz => owns_blockI hown.out hz))
              go_wp2_with fail
              go_roundw
              case rel => exact ⟨k + 1, by omega, by go_num, ⟨_, c6, by rw [← HAP.out.1]⟩, Lib.hid (by rw [← HAP.out.1, ← HAP.out.2]; exact hown6), hb6⟩
              case measure => simp [intOf]; omega
          · have HAP : Hid (S.length + 1 = (MM (k + 1)).length ∧ cl3 S ++ [.int .i64 k, .int .i64 ((k : Int) + 1), .int .i64 v] = cl3 (MM (k + 1))) := Lib.hid (by rw [HS1.out, HN.out, st1_new hv HU.out (fun h => hto h.1), cl3_app]; exact ⟨by simp, rfl⟩)
            have d1 : ((gt3 S u).2.1 == (k : Int)) = false := beq_false_of_ne hto
            clear hto HN HS1 HSE
            generalize (gt3 S u).2.2 = q at *
            generalize (gt3 S u).2.1 = q1 at *
            go_wp2_with fail
            go_quiet (fail)
            have hbA := below_drewN hbr nq
            have HRow := Lib.hid (owns_belowI HRow.out (below_drewN (Below.refl wr.heap.size wr) nq))
            replace c0 := cell_below c0 (below_drewN (Below.refl wr.heap.size wr) nq)
            generalize wr.drewN nq = wA at hbA HRow c0 ⊢
            have hown := Lib.hid (HRow.out.alloc (.cells #[.int .i64 k, .int .i64 ((k : Int) + 1), .int .i64 v] 75))
            have hbs := hbA.size
            go_wp2_with (first | (at_builtin; go_loud (refine wpList_append_lies _ rfl _ _ 47 rfl w.heap.size 75 n0 _ 3 24 Tryz.underlying47 hi hz0 hz1 hz2 rfl (by decide) (.slice _ S.length cv) S.length _ (by rfl) hown.out ⟨wA.heap.size, 0, none⟩ 1 1 [.int .i64 k, .int .i64 ((k : Int) + 1), .int .i64 v] (by rfl) (by rfl) ?d1 ?d2 (by decide) ?d3 ?d4 ?d5 _ rfl ?_)))
            case d1 =>
              refine World.news_of_block (cs := #[.int .i64 k, .int .i64 ((k : Int) + 1), .int .i64 v]) (t := 75) (fr := (0, 0)) ?_
              exact heap_alloc_new _ _
            case d2 => simp [Value.oneCell']
            case d3 => unfold maxLen; omega
            case d4 => omega
            case d5 => first | (simp; omega) | simp | omega
            intro g6 c6 w6 hown6 hgrow6 hat6 hlt6
            have hb6 : Below w.heap.size w w6 := ((hbA.alloc hbs _).grown hgrow6 (by first | (simp; omega) | simp | omega) (fun z hz => owns_blockI hown.out hz))
            go_wp2_with fail
            go_roundw
            case rel => exact ⟨k + 1, by omega, by go_num, ⟨_, c6, by rw [← HAP.out.1]⟩, Lib.hid (by rw [← HAP.out.1, ← HAP.out.2]; exact hown6), hb6⟩
            case measure => simp [intOf]; omega
    · obtain rfl : k = l.length := by omega
      have HEnd : Hid (StrA (MM l.length) w (.returned (.slice av (MM l.length).length cv)) wr) := Lib.hid ⟨av, cv, rfl, tri_own HRow.out (by omega), hbr⟩
      clear HRow HC HL HStep HLen HM0
      go_wp2_with fail
      go_ret
      exact HEnd.out
theorem str_val (f : Int → Int) (N : Nat) : strV (fun v : Int => v == 0) (fun m => gi (valK f N) m.toNat) (valK f N).length = strS N f := by
  rw [valK_len]
  unfold strS
  rw [Int.toNat_natCast]
  exact strV_congr N fun i hi => by
    show gi (valK f N) ((i : Int).toNat) = f i
    rw [Int.toNat_natCast, valK_get f hi]
theorem refStr_val (a : Option Addr) (f : Int → Int) (N ca : Nat) (hn : N ≤ 100000) (w : World) (hI : IntsS w a (valK f N)) :
    Calls Tryz.prog 61 #[.slice a N ca] w (StrA (strS N f) w) := by
  have := refStretches_r a (valK f N) ca (by rw [valK_len]; exact hn) w hI
  rw [str_val, valK_len] at this
  exact this
set_option maxRecDepth 100000 in
set_option maxHeartbeats 4000000 in
theorem refHeld_r (N : Nat) (a : Option Addr) (js : List Int) (ca : Nat) (aa : Option Addr) (l : List Sgn) (cl : Nat) (h dir tp : Int) (hV : lstE N js l [] = 0) (h2 : topB tp = true) (w : World) (hI : IntsS w a js) (hA : SgnS w aa l) :
    Calls Tryz.prog 28 #[.agg #[.int .i64 N, .slice a js.length ca], .slice aa l.length cl, .int .i64 h, .int .i64 dir, .int .i64 tp] w (StrA (heldS N js l h dir tp) w) := by
  have HA := Lib.hid (fun W (hW : Below w.heap.size w W) => refAll_r N a js ca aa l cl h dir tp hV h2 W (hI.below hW) (hA.below hW))
  have hN : N ≤ 100000 := by have := lst_line hV; omega
  have HS := Lib.hid (fun f b c W hW9 => refStr_val b f N c hN W hW9)
  have HEq : Hid (strS N (fun m => hldV N js l h dir tp m) = heldS N js l h dir tp) := Lib.hid rfl
  obtain ⟨f, hf⟩ : ∃ f : Int → Int, (fun m => hldV N js l h dir tp m) = f := ⟨_, rfl⟩
  rw [hf] at HA HEq
  rw [← HEq.out]
  clear hI hV h2 hA hf HEq
  go_enter Tryz.func28, Tryz.ntmps28
  go_wp2_with fail
  obtain ⟨wB, hwB⟩ : ∃ wB, w.alloc (.cells #[.int .i64 N, .slice a js.length ca] 24) = wB := ⟨_, rfl⟩
  have hb : Below w.heap.size w wB := by rw [← hwB]; exact (Below.refl _ _).alloc (Nat.le_refl _) _
  have l0 : wB.cell? ⟨w.heap.size, 0, none⟩ = some (.int .i64 N) := by rw [← hwB]; simp [go_sem]
  have l1 : wB.cell? ⟨w.heap.size, 1, none⟩ = some (.slice a js.length ca) := by rw [← hwB]; simp [go_sem]
  rw [hwB]
  clear hwB
  go_wp2_with (first | (go_at_call 62; refine (HA.out _ hb).mono ?_; rintro e w2 ⟨b, c, rfl, hP, hb2⟩; have HP := Lib.hid hP; have hbz := hb.trans (hb2.mono hb.size); clear hP hb2) | (go_at_call 61; refine (HS.out f b c _ HP.out).mono ?_; rintro e w3 ⟨b3, c3, rfl, hP3, hb3⟩; have HP3 := Lib.hid hP3; clear hP3))
  go_ret
  exact ⟨b3, c3, rfl, HP3.out, hbz.trans (hb3.mono hbz.size)⟩
set_option maxRecDepth 100000 in
set_option maxHeartbeats 4000000 in
theorem refWanted_r (N : Nat) (a : Option Addr) (js : List Int) (ca : Nat) (ae : Option Addr) (q : List Edc) (cq : Nat) (h dir tp : Int) (hV : lstE N js [] q = 0) (h2 : topB tp = true) (w : World) (hI : IntsS w a js) (hE : EdS w ae q) :
    Calls Tryz.prog 29 #[.agg #[.int .i64 N, .slice a js.length ca], .slice ae q.length cq, .int .i64 h, .int .i64 dir, .int .i64 tp] w (StrA (wantS N q h dir tp) w) := by
  have HA := Lib.hid (fun W (hW : Below w.heap.size w W) => refMusts_r N a js ca ae q cq h dir tp hV W (hE.below hW))
  have hN : N ≤ 100000 := by have := lst_line hV; omega
  have HS := Lib.hid (fun f b c W hW9 => refStr_val b f N c hN W hW9)
  have HEq : Hid (strS N (fun m => mustV q h tp dir m) = wantS N q h dir tp) := Lib.hid rfl
  obtain ⟨f, hf⟩ : ∃ f : Int → Int, (fun m => mustV q h tp dir m) = f := ⟨_, rfl⟩
  rw [hf] at HA HEq
  rw [← HEq.out]
  clear hI hV h2 hE hf HEq
  go_enter Tryz.func29, Tryz.ntmps29
  go_wp2_with fail
  obtain ⟨wB, hwB⟩ : ∃ wB, w.alloc (.cells #[.int .i64 N, .slice a js.length ca] 24) = wB := ⟨_, rfl⟩
  have hb : Below w.heap.size w wB := by rw [← hwB]; exact (Below.refl _ _).alloc (Nat.le_refl _) _
  have l0 : wB.cell? ⟨w.heap.size, 0, none⟩ = some (.int .i64 N) := by rw [← hwB]; simp [go_sem]
  have l1 : wB.cell? ⟨w.heap.size, 1, none⟩ = some (.slice a js.length ca) := by rw [← hwB]; simp [go_sem]
  rw [hwB]
  clear hwB
  go_wp2_with (first | (go_at_call 63; refine (HA.out _ hb).mono ?_; rintro e w2 ⟨b, c, rfl, hP, hb2⟩; have HP := Lib.hid hP; have hbz := hb.trans (hb2.mono hb.size); clear hP hb2) | (go_at_call 61; refine (HS.out f b c _ HP.out).mono ?_; rintro e w3 ⟨b3, c3, rfl, hP3, hb3⟩; have HP3 := Lib.hid hP3; clear hP3))
  go_ret
  exact ⟨b3, c3, rfl, HP3.out, hbz.trans (hb3.mono hbz.size)⟩
end Go.Proofs.YtiagflackfkmnaaGreat

namespace Go.Proofs.YtiagflackfkmnaaGreat
set_option linter.unusedVariables false
set_option linter.unusedSimpArgs false
open Go.RowKit

set_option maxRecDepth 100000 in
set_option maxHeartbeats 1000000 in
theorem topic_r (n : Int) (w : World) : Calls Tryz.prog 23 #[.int .i64 n] w fun e w' => e = .returned (.bool (topB n)) ∧ w = w' := by
  by_cases h1 : n = 1
  · subst h1
    go_enter Tryz.func23, Tryz.ntmps23
    go_wp2_with fail
    go_ret
    exact ⟨rfl, rfl⟩
  · have d1 : (n == 1) = false := beq_false_of_ne h1
    have hr : Hid (topB n = (n == 2)) := Lib.hid (by unfold topB; rw [d1, Bool.false_or])
    clear h1
    go_enter Tryz.func23, Tryz.ntmps23
    go_wp2_with fail
    go_ret
    exact ⟨by rw [hr.out] <;> rfl, rfl⟩
set_option linter.unnecessarySimpa false
set_option maxRecDepth 100000 in
set_option maxHeartbeats 4000000 in
theorem ruleHolds_any (L : Int) (a : Option Addr) (js : List Int) (ca : Nat) (aa : Option Addr) (l : List Sgn) (cl : Nat) (ae : Option Addr) (q : List Edc) (cq : Nat) (q0 q1 q2 q3 : Int) (w : World) (hI : IntsS w a js) (hA : SgnS w aa l) (hE : EdS w ae q) : Calls Tryz.prog 4 #[.agg #[.int .i64 L, .slice a js.length ca, .slice aa l.length cl, .slice ae q.length cq, .int .i64 q0, .int .i64 q1, .int .i64 q2, .int .i64 q3]] w fun e w' => e = .returned (.bool true) ∧ Below w.heap.size w w' := by
  have HH := Lib.hid (fun W (hW : Below w.heap.size w W) => Heavy_any L a js ca aa l cl ae q cq q0 q1 q2 q3 W (hI.below hW) (hA.below hW) (hE.below hW))
  have hrr : (btw q0 0 10000000 && dirB q1 && topB q2 && btw q3 0 (L - 1)) = (btw q0 0 10000000 && dirB q1 && topB q2 && decide (0 ≤ q3) && decide (q3 < L)) := by
    have : btw q3 0 (L - 1) = (decide (0 ≤ q3) && decide (q3 < L)) := by
      unfold btw
      have : decide (q3 ≤ L - 1) = decide (q3 < L) := by rw [Bool.eq_iff_iff, decide_eq_true_eq, decide_eq_true_eq]; omega
      rw [this]
    rw [this, Bool.and_assoc (btw q0 0 10000000 && dirB q1 && topB q2)]
  obtain ⟨r, hr⟩ : ∃ r, r = (btw q0 0 10000000 && dirB q1 && topB q2 && btw q3 0 (L - 1)) := ⟨_, rfl⟩
  have HP := Lib.hid (fun W (hW : Below w.heap.size w W) => Holds_any L a js ca aa l cl q0 q1 q2 q3 (edcsB L js q) r hr W (hI.below hW) (hA.below hW))
  have HM := Lib.hid (fun W (hW : Below w.heap.size w W) => Must_any L a js ca ae q cq q0 q1 q2 q3 (sgnsB L js l) r hr W (hI.below hW) (hE.below hW))
  have HW1 := Lib.hid (fun W (hW : Below w.heap.size w W) => why_r L a js ca aa l cl ae q cq q0 q1 q2 q3 true false r W (hI.below hW) (hA.below hW) (hE.below hW))
  have HW2 := Lib.hid (fun W (hW : Below w.heap.size w W) => why_r L a js ca aa l cl ae q cq q0 q1 q2 q3 false true r W (hI.below hW) (hA.below hW) (hE.below hW))
  have HE1 : Hid (whyK (lineB L js) true (sgnsB L js l) false (edcsB L js q) r = 0 → ∀ W, Below w.heap.size w W → Calls Tryz.prog 24 #[.agg #[.int .i64 L, .slice a js.length ca], .slice aa l.length cl, .int .i64 q0, .int .i64 q1, .int .i64 q2, .int .i64 q3] W fun e w' => e = .returned (.int .i64 (hldV L js l q0 q1 q2 q3)) ∧ Below W.heap.size W w') := Lib.hid fun h W hW => by
    by_cases hV : lstE L js l [] = 0
    · rw [(lst_s L js l true _ _).2 hV] at h
      cases hx : r with
      | false => rw [hx, if_pos rfl] at h; cases h
      | true =>
        rw [hx] at hr
        have hr := hr.symm
        simp only [Bool.and_eq_true] at hr
        exact refHolds_r L a js ca aa l cl q0 q1 q2 q3 hV hr.1.2 hr.2 W (hI.below hW) (hA.below hW)
    · rw [(lst_s L js l true _ _).1 hV] at h; exact absurd h hV
  have HRM := Lib.hid (fun W (hW : Below w.heap.size w W) => refMust_r ae q cq q0 q2 q1 q3 W (hE.below hW))
  have HRr := Lib.hid (hr.trans hrr)
  generalize hldV L js l q0 q1 q2 q3 = VH at *
  generalize mustV q q0 q2 q1 q3 = VM at *
  clear hr hrr
  generalize whyK (lineB L js) true (sgnsB L js l) false (edcsB L js q) r = E1 at *
  generalize whyK (lineB L js) false (sgnsB L js l) true (edcsB L js q) r = E2 at *
  obtain ⟨V1, hV1⟩ : ∃ V1, (if E1 = 0 then VH else 0) = V1 := ⟨_, rfl⟩
  obtain ⟨V2, hV2⟩ : ∃ V2, (if E2 = 0 then VM else 0) = V2 := ⟨_, rfl⟩
  rw [hV1] at HP
  rw [hV2] at HM
  have HV1 := Lib.hid hV1
  have HV2 := Lib.hid hV2
  clear hV1 hV2
  clear hI hA hE
  go_enter Tryz.func4, Tryz.ntmps4
  go_wp2_with fail
  obtain ⟨wB, hwB⟩ : ∃ wB, w.alloc (.cells #[.int .i64 L, .slice a js.length ca, .slice aa l.length cl, .slice ae q.length cq, .int .i64 q0, .int .i64 q1, .int .i64 q2, .int .i64 q3] 28) = wB := ⟨_, rfl⟩
  have hb : Below w.heap.size w wB := by rw [← hwB]; exact (Below.refl _ _).alloc (Nat.le_refl _) _
  have p0 : wB.cell? ⟨w.heap.size, 0, none⟩ = some (.int .i64 L) := by rw [← hwB]; simp [go_sem]
  have p1 : wB.cell? ⟨w.heap.size, 1, none⟩ = some (.slice a js.length ca) := by rw [← hwB]; simp [go_sem]
  have p2 : wB.cell? ⟨w.heap.size, 2, none⟩ = some (.slice aa l.length cl) := by rw [← hwB]; simp [go_sem]
  have p3 : wB.cell? ⟨w.heap.size, 3, none⟩ = some (.slice ae q.length cq) := by rw [← hwB]; simp [go_sem]
  have p4 : wB.cell? ⟨w.heap.size, 4, none⟩ = some (.int .i64 q0) := by rw [← hwB]; simp [go_sem]
  have p5 : wB.cell? ⟨w.heap.size, 5, none⟩ = some (.int .i64 q1) := by rw [← hwB]; simp [go_sem]
  have p6 : wB.cell? ⟨w.heap.size, 6, none⟩ = some (.int .i64 q2) := by rw [← hwB]; simp [go_sem]
  have p7 : wB.cell? ⟨w.heap.size, 7, none⟩ = some (.int .i64 q3) := by rw [← hwB]; simp [go_sem]
  rw [hwB]
  clear hwB
  refine (HH.out _ hb).mono ?_
  rintro e wX ⟨bv, hHv, rfl, hb1⟩
  replace p0 := cell_below p0 hb1
  replace p1 := cell_below p1 hb1
  replace p2 := cell_below p2 hb1
  replace p3 := cell_below p3 hb1
  replace p4 := cell_below p4 hb1
  replace p5 := cell_below p5 hb1
  replace p6 := cell_below p6 hb1
  replace p7 := cell_below p7 hb1
  have hbw := hb.trans (hb1.mono hb.size)
  clear HH hb1
  cases bv with
  | true =>
    clear HP HM HW1 HW2 HE1 HRM HRr HV1 HV2 V1 V2 hHv
    go_wp2_with (go_at_call 12; refine (first_any _).mono ?_; rintro e w9 ⟨rfl, hb9⟩)
    go_ret
    exact ⟨rfl, hbw.trans (hb9.mono hbw.size)⟩
  | false =>
    have HHv := Lib.hid (hHv rfl)
    have hz := block_lt p0
    have Z0 := Lib.hid p0
    have Z1 := Lib.hid p1
    have Z2 := Lib.hid p2
    have Z3 := Lib.hid p3
    have Z4 := Lib.hid p4
    have Z5 := Lib.hid p5
    have Z6 := Lib.hid p6
    have Z7 := Lib.hid p7
    have HBW := Lib.hid hbw
    clear p0 p1 p2 p3 p4 p5 p6 p7 hb hbw hHv
    have hbw := HBW.out
    have p0 := Z0.out
    have p1 := Z1.out
    have p2 := Z2.out
    have p3 := Z3.out
    have p4 := Z4.out
    have p5 := Z5.out
    have p6 := Z6.out
    have p7 := Z7.out
    clear Z0 Z1 Z2 Z3 Z4 Z5 Z6 Z7
    go_upto_region 5 with (first | (go_at_call 21; refine (HP.out _ hbw).mono ?_; rintro e w9 ⟨rfl, hb9⟩; replace hbw := hbw.trans (hb9.mono hbw.size); replace p0 := cell_below p0 hb9; replace p1 := cell_below p1 hb9; replace p2 := cell_below p2 hb9; replace p3 := cell_below p3 hb9; replace p4 := cell_below p4 hb9; replace p5 := cell_below p5 hb9; replace p6 := cell_below p6 hb9; replace p7 := cell_below p7 hb9; clear hb9) | (go_at_call 22; refine (HM.out _ hbw).mono ?_; rintro e w9 ⟨rfl, hb9⟩; replace hbw := hbw.trans (hb9.mono hbw.size); replace p0 := cell_below p0 hb9; replace p1 := cell_below p1 hb9; replace p2 := cell_below p2 hb9; replace p3 := cell_below p3 hb9; replace p4 := cell_below p4 hb9; replace p5 := cell_below p5 hb9; replace p6 := cell_below p6 hb9; replace p7 := cell_below p7 hb9; clear hb9))
    obtain ⟨wY, rfl⟩ : ∃ wY : World, wY = w9 := ⟨_, rfl⟩
    clear HP HM
    have K0 := Lib.hid (fun W => hour_r q0 W)
    have K1 := Lib.hid (fun W => way_r q1 W)
    have K2 := Lib.hid (fun W => topic_r q2 W)
    generalize btw q0 0 10000000 = b0 at *
    generalize dirB q1 = b1 at *
    generalize topB q2 = b2 at *
    go_cut [7] (fun v wx => wY = wx ∧ v = .bool r)
    case first =>
      cases b0 with
      | false =>
        go_wp2_with (first | (go_at_call 17; refine (K0.out _).mono ?_; rintro e w9 ⟨rfl, rfl⟩) | (go_at_call 18; refine (K1.out _).mono ?_; rintro e w9 ⟨rfl, rfl⟩) | (go_at_call 23; refine (K2.out _).mono ?_; rintro e w9 ⟨rfl, rfl⟩))
        go_meet
        exact ⟨rfl, by rw [HRr.out] <;> first | rfl | (simp only [d1, d2]; rfl) | (simp only [d1]; rfl) | simp [d1, d2] | simp [d1] | simp⟩
      | true =>
        cases b1 with
        | false =>
          go_wp2_with (first | (go_at_call 17; refine (K0.out _).mono ?_; rintro e w9 ⟨rfl, rfl⟩) | (go_at_call 18; refine (K1.out _).mono ?_; rintro e w9 ⟨rfl, rfl⟩) | (go_at_call 23; refine (K2.out _).mono ?_; rintro e w9 ⟨rfl, rfl⟩))
          go_meet
          exact ⟨rfl, by rw [HRr.out] <;> first | rfl | (simp only [d1, d2]; rfl) | (simp only [d1]; rfl) | simp [d1, d2] | simp [d1] | simp⟩
        | true =>
          cases b2 with
          | false =>
            go_wp2_with (first | (go_at_call 17; refine (K0.out _).mono ?_; rintro e w9 ⟨rfl, rfl⟩) | (go_at_call 18; refine (K1.out _).mono ?_; rintro e w9 ⟨rfl, rfl⟩) | (go_at_call 23; refine (K2.out _).mono ?_; rintro e w9 ⟨rfl, rfl⟩))
            go_meet
            exact ⟨rfl, by rw [HRr.out] <;> first | rfl | (simp only [d1, d2]; rfl) | (simp only [d1]; rfl) | simp [d1, d2] | simp [d1] | simp⟩
          | true =>
            by_cases z1 : 0 ≤ q3
            · have d1 : decide (0 ≤ q3) = true := decide_eq_true z1
              by_cases z2 : q3 < L
              · have d2 : decide (q3 < L) = true := decide_eq_true z2
                go_wp2_with (first | (go_at_call 17; refine (K0.out _).mono ?_; rintro e w9 ⟨rfl, rfl⟩) | (go_at_call 18; refine (K1.out _).mono ?_; rintro e w9 ⟨rfl, rfl⟩) | (go_at_call 23; refine (K2.out _).mono ?_; rintro e w9 ⟨rfl, rfl⟩))
                go_meet
                exact ⟨rfl, by rw [HRr.out] <;> first | rfl | (simp only [d1, d2]; rfl) | (simp only [d1]; rfl) | simp [d1, d2] | simp [d1] | simp⟩
              · have d2 : decide (q3 < L) = false := decide_eq_false z2
                go_wp2_with (first | (go_at_call 17; refine (K0.out _).mono ?_; rintro e w9 ⟨rfl, rfl⟩) | (go_at_call 18; refine (K1.out _).mono ?_; rintro e w9 ⟨rfl, rfl⟩) | (go_at_call 23; refine (K2.out _).mono ?_; rintro e w9 ⟨rfl, rfl⟩))
                go_meet
                exact ⟨rfl, by rw [HRr.out] <;> first | rfl | (simp only [d1, d2]; rfl) | (simp only [d1]; rfl) | simp [d1, d2] | simp [d1] | simp⟩
            · have d1 : decide (0 ≤ q3) = false := decide_eq_false z1
              go_wp2_with (first | (go_at_call 17; refine (K0.out _).mono ?_; rintro e w9 ⟨rfl, rfl⟩) | (go_at_call 18; refine (K1.out _).mono ?_; rintro e w9 ⟨rfl, rfl⟩) | (go_at_call 23; refine (K2.out _).mono ?_; rintro e w9 ⟨rfl, rfl⟩))
              go_meet
              exact ⟨rfl, by rw [HRr.out] <;> first | rfl | (simp only [d1, d2]; rfl) | (simp only [d1]; rfl) | simp [d1, d2] | simp [d1] | simp⟩
    case rest =>
      obtain ⟨rfl, rfl⟩ := hcut
      clear K0 K1 K2 HRr
      have hzz := block_lt p0
      have Y0 := Lib.hid p0
      have Y1 := Lib.hid p1
      have Y2 := Lib.hid p2
      have Y3 := Lib.hid p3
      have Y4 := Lib.hid p4
      have Y5 := Lib.hid p5
      have Y6 := Lib.hid p6
      have Y7 := Lib.hid p7
      have HBY := Lib.hid hbw
      have HWX := Lib.hid (fun W (hW : Below wY.heap.size wY W) => HW1.out W (HBY.out.trans (hW.mono HBY.out.size)))
      have HWX2 := Lib.hid (fun W (hW : Below wY.heap.size wY W) => HW2.out W (HBY.out.trans (hW.mono HBY.out.size)))
      clear HW1 HW2 hbw
      have hB : Below wY.heap.size wY wY := Below.refl _ _
      go_wp2_with fail
      go_region_held3 (fun w' => w'.cell? ⟨w.heap.size, 0, none⟩ = some (.int .i64 L) ∧ w'.cell? ⟨w.heap.size, 1, none⟩ = some (.slice a js.length ca) ∧ w'.cell? ⟨w.heap.size, 2, none⟩ = some (.slice aa l.length cl) ∧ w'.cell? ⟨w.heap.size, 3, none⟩ = some (.slice ae q.length cq) ∧ w'.cell? ⟨w.heap.size, 4, none⟩ = some (.int .i64 q0) ∧ w'.cell? ⟨w.heap.size, 5, none⟩ = some (.int .i64 q1) ∧ w'.cell? ⟨w.heap.size, 6, none⟩ = some (.int .i64 q2) ∧ w'.cell? ⟨w.heap.size, 7, none⟩ = some (.int .i64 q3)) (go_keep)
        (first
          | (go_at_call 16
             first | (with_reducible refine Calls.mono (HWX.out _ (show Below wY.heap.size wY _ by first | exact hB | exact hB.drew)) ?_) | (with_reducible refine Calls.mono (HWX2.out _ (show Below wY.heap.size wY _ by first | exact hB | exact hB.drew)) ?_)
             rintro e w9 ⟨rfl, hb9⟩
             replace hB : Below wY.heap.size wY w9 := (show Below wY.heap.size wY _ by first | exact hB | exact hB.drew).trans (hb9.mono (by have := hB.size; first | exact this | (simp; exact this)))
             have p0 := (hB.cell (p := ⟨w.heap.size, 0, none⟩) hzz).trans Y0.out
             have p1 := (hB.cell (p := ⟨w.heap.size, 1, none⟩) hzz).trans Y1.out
             have p2 := (hB.cell (p := ⟨w.heap.size, 2, none⟩) hzz).trans Y2.out
             have p3 := (hB.cell (p := ⟨w.heap.size, 3, none⟩) hzz).trans Y3.out
             have p4 := (hB.cell (p := ⟨w.heap.size, 4, none⟩) hzz).trans Y4.out
             have p5 := (hB.cell (p := ⟨w.heap.size, 5, none⟩) hzz).trans Y5.out
             have p6 := (hB.cell (p := ⟨w.heap.size, 6, none⟩) hzz).trans Y6.out
             have p7 := (hB.cell (p := ⟨w.heap.size, 7, none⟩) hzz).trans Y7.out
             skip))
      all_goals
        have hbw := HBY.out.trans (hB.mono HBY.out.size)
        by_cases hE1 : E1 = 0
        · by_cases hE2 : E2 = 0
          · skip
            obtain rfl : V1 = VH := by rw [← HV1.out, if_pos hE1]
            subst hE1
            obtain rfl : V2 = VM := by rw [← HV2.out, if_pos hE2]
            subst hE2
            clear HV1 HV2
            have v1 : (V1 == V1) = true := by simp
            have v2 : (V2 == V2) = true := by simp
            go_wp2_with (first | (go_at_call 24; refine (HE1.out rfl _ hbw).mono ?_; rintro e w9 ⟨rfl, hb9⟩; replace hbw := hbw.trans (hb9.mono hbw.size); replace p0 := cell_below p0 hb9; replace p1 := cell_below p1 hb9; replace p2 := cell_below p2 hb9; replace p3 := cell_below p3 hb9; replace p4 := cell_below p4 hb9; replace p5 := cell_below p5 hb9; replace p6 := cell_below p6 hb9; replace p7 := cell_below p7 hb9; clear hb9) | (go_at_call 25; refine (HRM.out _ hbw).mono ?_; rintro e w9 ⟨rfl, hb9⟩; replace hbw := hbw.trans (hb9.mono hbw.size); replace p0 := cell_below p0 hb9; replace p1 := cell_below p1 hb9; replace p2 := cell_below p2 hb9; replace p3 := cell_below p3 hb9; replace p4 := cell_below p4 hb9; replace p5 := cell_below p5 hb9; replace p6 := cell_below p6 hb9; replace p7 := cell_below p7 hb9; clear hb9) | (go_at_call 12; refine (first_any _).mono ?_; rintro e w9 ⟨rfl, hb9⟩))
            go_ret
            exact ⟨rfl, hbw.trans (hb9.mono hbw.size)⟩
          · skip
            obtain rfl : V1 = VH := by rw [← HV1.out, if_pos hE1]
            subst hE1
            obtain rfl : V2 = 0 := by rw [← HV2.out, if_neg hE2]
            have d2 : (E2 == 0) = false := beq_false_of_ne hE2
            have n2 : (E2 != E2) = false := by simp
            clear HV1 HV2
            have v1 : (V1 == V1) = true := by simp
            go_wp2_with (first | (go_at_call 24; refine (HE1.out rfl _ hbw).mono ?_; rintro e w9 ⟨rfl, hb9⟩; replace hbw := hbw.trans (hb9.mono hbw.size); replace p0 := cell_below p0 hb9; replace p1 := cell_below p1 hb9; replace p2 := cell_below p2 hb9; replace p3 := cell_below p3 hb9; replace p4 := cell_below p4 hb9; replace p5 := cell_below p5 hb9; replace p6 := cell_below p6 hb9; replace p7 := cell_below p7 hb9; clear hb9) | (go_at_call 12; refine (first_any _).mono ?_; rintro e w9 ⟨rfl, hb9⟩))
            go_ret
            exact ⟨rfl, hbw.trans (hb9.mono hbw.size)⟩
        · by_cases hE2 : E2 = 0
          · skip
            obtain rfl : V1 = 0 := by rw [← HV1.out, if_neg hE1]
            have d1 : (E1 == 0) = false := beq_false_of_ne hE1
            have n1 : (E1 != E1) = false := by simp
            obtain rfl : V2 = VM := by rw [← HV2.out, if_pos hE2]
            subst hE2
            clear HV1 HV2
            have v2 : (V2 == V2) = true := by simp
            go_wp2_with (first | (go_at_call 25; refine (HRM.out _ hbw).mono ?_; rintro e w9 ⟨rfl, hb9⟩; replace hbw := hbw.trans (hb9.mono hbw.size); replace p0 := cell_below p0 hb9; replace p1 := cell_below p1 hb9; replace p2 := cell_below p2 hb9; replace p3 := cell_below p3 hb9; replace p4 := cell_below p4 hb9; replace p5 := cell_below p5 hb9; replace p6 := cell_below p6 hb9; replace p7 := cell_below p7 hb9; clear hb9) | (go_at_call 12; refine (first_any _).mono ?_; rintro e w9 ⟨rfl, hb9⟩))
            go_ret
            exact ⟨rfl, hbw.trans (hb9.mono hbw.size)⟩
          · skip
            obtain rfl : V1 = 0 := by rw [← HV1.out, if_neg hE1]
            have d1 : (E1 == 0) = false := beq_false_of_ne hE1
            have n1 : (E1 != E1) = false := by simp
            obtain rfl : V2 = 0 := by rw [← HV2.out, if_neg hE2]
            have d2 : (E2 == 0) = false := beq_false_of_ne hE2
            have n2 : (E2 != E2) = false := by simp
            clear HV1 HV2
            go_wp2_with (first | (go_at_call 12; refine (first_any _).mono ?_; rintro e w9 ⟨rfl, hb9⟩))
            go_ret
            exact ⟨rfl, hbw.trans (hb9.mono hbw.size)⟩
end Go.Proofs.YtiagflackfkmnaaGreat

namespace Go.Proofs.YtiagflackfkmnaaGreat
set_option linter.unusedVariables false
set_option linter.unusedSimpArgs false
open Go.RowKit

theorem same0_r (b : Option Addr) (c : Nat) (w : World) (h : TriS w b []) : Calls Tryz.prog 30 #[.slice b 0 c, .slice none 0 0] w fun e w' => e = .returned (.bool true) ∧ Below w.heap.size w w' := sameHeld_r b none [] c 0 w h (tri_nil w)
set_option linter.unnecessarySimpa false
set_option maxRecDepth 100000 in
set_option maxHeartbeats 4000000 in
theorem ruleHeld_any (L : Int) (a : Option Addr) (js : List Int) (ca : Nat) (aa : Option Addr) (l : List Sgn) (cl : Nat) (ae : Option Addr) (q : List Edc) (cq : Nat) (q0 q1 q2 q3 : Int) (w : World) (hI : IntsS w a js) (hA : SgnS w aa l) (hE : EdS w ae q) : Calls Tryz.prog 5 #[.agg #[.int .i64 L, .slice a js.length ca, .slice aa l.length cl, .slice ae q.length cq, .int .i64 q0, .int .i64 q1, .int .i64 q2, .int .i64 q3]] w fun e w' => e = .returned (.bool true) ∧ Below w.heap.size w w' := by
  have HH := Lib.hid (fun W (hW : Below w.heap.size w W) => Heavy_any L a js ca aa l cl ae q cq q0 q1 q2 q3 W (hI.below hW) (hA.below hW) (hE.below hW))
  have hrr : (btw q0 0 10000000 && dirB q1 && topB q2) = (btw q0 0 10000000 && dirB q1 && topB q2) := rfl
  obtain ⟨r, hr⟩ : ∃ r, r = (btw q0 0 10000000 && dirB q1 && topB q2) := ⟨_, rfl⟩
  have HP := Lib.hid (fun W (hW : Below w.heap.size w W) => Held_any L a js ca aa l cl q0 q1 q2 (edcsB L js q) r hr W (hI.below hW) (hA.below hW))
  have HM := Lib.hid (fun W (hW : Below w.heap.size w W) => Wanted_any L a js ca ae q cq q0 q1 q2 (sgnsB L js l) r hr W (hI.below hW) (hE.below hW))
  have HW1 := Lib.hid (fun W (hW : Below w.heap.size w W) => why_r L a js ca aa l cl ae q cq q0 q1 q2 q3 true false r W (hI.below hW) (hA.below hW) (hE.below hW))
  have HW2 := Lib.hid (fun W (hW : Below w.heap.size w W) => why_r L a js ca aa l cl ae q cq q0 q1 q2 q3 false true r W (hI.below hW) (hA.below hW) (hE.below hW))
  have HE1 : Hid (whyK (lineB L js) true (sgnsB L js l) false (edcsB L js q) r = 0 → ∀ W, Below w.heap.size w W → Calls Tryz.prog 28 #[.agg #[.int .i64 L, .slice a js.length ca], .slice aa l.length cl, .int .i64 q0, .int .i64 q1, .int .i64 q2] W (StrA (heldS L js l q0 q1 q2) W)) := Lib.hid fun h W hW => by
    by_cases hV : lstE L js l [] = 0
    · rw [(lst_s L js l true _ _).2 hV] at h
      cases hx : r with
      | false => rw [hx, if_pos rfl] at h; cases h
      | true =>
        rw [hx] at hr
        have hr := hr.symm
        simp only [Bool.and_eq_true] at hr
        have hIW := hI.below hW
        have hAW := hA.below hW
        have hL := lst_line hV
        obtain ⟨N, hN⟩ : ∃ N : Nat, L = N := ⟨L.toNat, by omega⟩
        rw [hN] at hV ⊢
        exact refHeld_r N a js ca aa l cl q0 q1 q2 hV hr.2 W hIW hAW
    · rw [(lst_s L js l true _ _).1 hV] at h; exact absurd h hV
  have HE2 : Hid (whyK (lineB L js) false (sgnsB L js l) true (edcsB L js q) r = 0 → ∀ W, Below w.heap.size w W → Calls Tryz.prog 29 #[.agg #[.int .i64 L, .slice a js.length ca], .slice ae q.length cq, .int .i64 q0, .int .i64 q1, .int .i64 q2] W (StrA (wantS L q q0 q1 q2) W)) := Lib.hid fun h W hW => by
    by_cases hV : lstE L js [] q = 0
    · rw [(lst_e L js q _ _).2 hV] at h
      cases hx : r with
      | false => rw [hx, if_pos rfl] at h; cases h
      | true =>
        rw [hx] at hr
        have hr := hr.symm
        simp only [Bool.and_eq_true] at hr
        have hIW := hI.below hW
        have hEW := hE.below hW
        have hL := lst_line hV
        obtain ⟨N, hN⟩ : ∃ N : Nat, L = N := ⟨L.toNat, by omega⟩
        rw [hN] at hV ⊢
        exact refWanted_r N a js ca ae q cq q0 q1 q2 hV hr.2 W hIW hEW
    · rw [(lst_e L js q _ _).1 hV] at h; exact absurd h hV
  have HRr := Lib.hid (hr.trans hrr)
  generalize heldS L js l q0 q1 q2 = VH at *
  generalize wantS L q q0 q1 q2 = VM at *
  clear hr hrr
  generalize whyK (lineB L js) true (sgnsB L js l) false (edcsB L js q) r = E1 at *
  generalize whyK (lineB L js) false (sgnsB L js l) true (edcsB L js q) r = E2 at *
  obtain ⟨V1, hV1⟩ : ∃ V1, (if E1 = 0 then VH else []) = V1 := ⟨_, rfl⟩
  obtain ⟨V2, hV2⟩ : ∃ V2, (if E2 = 0 then VM else []) = V2 := ⟨_, rfl⟩
  rw [hV1] at HP
  rw [hV2] at HM
  have HV1 := Lib.hid hV1
  have HV2 := Lib.hid hV2
  clear hV1 hV2
  clear hI hA hE
  go_enter Tryz.func5, Tryz.ntmps5
  go_wp2_with fail
  obtain ⟨wB, hwB⟩ : ∃ wB, w.alloc (.cells #[.int .i64 L, .slice a js.length ca, .slice aa l.length cl, .slice ae q.length cq, .int .i64 q0, .int .i64 q1, .int .i64 q2, .int .i64 q3] 28) = wB := ⟨_, rfl⟩
  have hb : Below w.heap.size w wB := by rw [← hwB]; exact (Below.refl _ _).alloc (Nat.le_refl _) _
  have p0 : wB.cell? ⟨w.heap.size, 0, none⟩ = some (.int .i64 L) := by rw [← hwB]; simp [go_sem]
  have p1 : wB.cell? ⟨w.heap.size, 1, none⟩ = some (.slice a js.length ca) := by rw [← hwB]; simp [go_sem]
  have p2 : wB.cell? ⟨w.heap.size, 2, none⟩ = some (.slice aa l.length cl) := by rw [← hwB]; simp [go_sem]
  have p3 : wB.cell? ⟨w.heap.size, 3, none⟩ = some (.slice ae q.length cq) := by rw [← hwB]; simp [go_sem]
  have p4 : wB.cell? ⟨w.heap.size, 4, none⟩ = some (.int .i64 q0) := by rw [← hwB]; simp [go_sem]
  have p5 : wB.cell? ⟨w.heap.size, 5, none⟩ = some (.int .i64 q1) := by rw [← hwB]; simp [go_sem]
  have p6 : wB.cell? ⟨w.heap.size, 6, none⟩ = some (.int .i64 q2) := by rw [← hwB]; simp [go_sem]
  have p7 : wB.cell? ⟨w.heap.size, 7, none⟩ = some (.int .i64 q3) := by rw [← hwB]; simp [go_sem]
  rw [hwB]
  clear hwB
  refine (HH.out _ hb).mono ?_
  rintro e wX ⟨bv, hHv, rfl, hb1⟩
  replace p0 := cell_below p0 hb1
  replace p1 := cell_below p1 hb1
  replace p2 := cell_below p2 hb1
  replace p3 := cell_below p3 hb1
  replace p4 := cell_below p4 hb1
  replace p5 := cell_below p5 hb1
  replace p6 := cell_below p6 hb1
  replace p7 := cell_below p7 hb1
  have hbw := hb.trans (hb1.mono hb.size)
  clear HH hb1
  cases bv with
  | true =>
    clear HP HM HW1 HW2 HE1 HE2 HRr HV1 HV2 V1 V2 hHv
    go_wp2_with (go_at_call 12; refine (first_any _).mono ?_; rintro e w9 ⟨rfl, hb9⟩)
    go_ret
    exact ⟨rfl, hbw.trans (hb9.mono hbw.size)⟩
  | false =>
    have HHv := Lib.hid (hHv rfl)
    have hz := block_lt p0
    have Z0 := Lib.hid p0
    have Z1 := Lib.hid p1
    have Z2 := Lib.hid p2
    have Z3 := Lib.hid p3
    have Z4 := Lib.hid p4
    have Z5 := Lib.hid p5
    have Z6 := Lib.hid p6
    have Z7 := Lib.hid p7
    have HBW := Lib.hid hbw
    clear p0 p1 p2 p3 p4 p5 p6 p7 hb hbw hHv
    have hbw := HBW.out
    have p0 := Z0.out
    have p1 := Z1.out
    have p2 := Z2.out
    have p3 := Z3.out
    have p4 := Z4.out
    have p5 := Z5.out
    have p6 := Z6.out
    have p7 := Z7.out
    clear Z0 Z1 Z2 Z3 Z4 Z5 Z6 Z7
    go_upto_region 5 with (first | (go_at_call 26; refine (HP.out _ hbw).mono ?_; rintro e w9 ⟨b1, c1, rfl, hT1, hb9⟩; have HT1 := Lib.hid hT1; clear hT1; replace hbw := hbw.trans (hb9.mono hbw.size); replace p0 := cell_below p0 hb9; replace p1 := cell_below p1 hb9; replace p2 := cell_below p2 hb9; replace p3 := cell_below p3 hb9; replace p4 := cell_below p4 hb9; replace p5 := cell_below p5 hb9; replace p6 := cell_below p6 hb9; replace p7 := cell_below p7 hb9; clear hb9) | (go_at_call 27; refine (HM.out _ hbw).mono ?_; rintro e w9 ⟨b2, c2, rfl, hT2, hb9⟩; have HT2 := Lib.hid hT2; clear hT2; replace hbw := hbw.trans (hb9.mono hbw.size); replace p0 := cell_below p0 hb9; replace p1 := cell_below p1 hb9; replace p2 := cell_below p2 hb9; replace p3 := cell_below p3 hb9; replace p4 := cell_below p4 hb9; replace p5 := cell_below p5 hb9; replace p6 := cell_below p6 hb9; replace p7 := cell_below p7 hb9; replace HT1 := Lib.hid (HT1.out.below hb9); clear hb9))
    obtain ⟨wY, rfl⟩ : ∃ wY : World, wY = w9 := ⟨_, rfl⟩
    clear HP HM
    have K0 := Lib.hid (fun W => hour_r q0 W)
    have K1 := Lib.hid (fun W => way_r q1 W)
    have K2 := Lib.hid (fun W => topic_r q2 W)
    generalize btw q0 0 10000000 = b0 at *
    generalize dirB q1 = b1b at *
    generalize topB q2 = b2b at *
    go_cut [7] (fun v wx => wY = wx ∧ v = .bool r)
    case first =>
      cases b0 with
      | false =>
        go_wp2_with (first | (go_at_call 17; refine (K0.out _).mono ?_; rintro e w9 ⟨rfl, rfl⟩) | (go_at_call 18; refine (K1.out _).mono ?_; rintro e w9 ⟨rfl, rfl⟩) | (go_at_call 23; refine (K2.out _).mono ?_; rintro e w9 ⟨rfl, rfl⟩))
        go_meet
        exact ⟨rfl, by rw [HRr.out] <;> first | rfl | simp⟩
      | true =>
        cases b1b with
        | false =>
          go_wp2_with (first | (go_at_call 17; refine (K0.out _).mono ?_; rintro e w9 ⟨rfl, rfl⟩) | (go_at_call 18; refine (K1.out _).mono ?_; rintro e w9 ⟨rfl, rfl⟩) | (go_at_call 23; refine (K2.out _).mono ?_; rintro e w9 ⟨rfl, rfl⟩))
          go_meet
          exact ⟨rfl, by rw [HRr.out] <;> first | rfl | simp⟩
        | true =>
          cases b2b with
          | false =>
            go_wp2_with (first | (go_at_call 17; refine (K0.out _).mono ?_; rintro e w9 ⟨rfl, rfl⟩) | (go_at_call 18; refine (K1.out _).mono ?_; rintro e w9 ⟨rfl, rfl⟩) | (go_at_call 23; refine (K2.out _).mono ?_; rintro e w9 ⟨rfl, rfl⟩))
            go_meet
            exact ⟨rfl, by rw [HRr.out] <;> first | rfl | simp⟩
          | true =>
            go_wp2_with (first | (go_at_call 17; refine (K0.out _).mono ?_; rintro e w9 ⟨rfl, rfl⟩) | (go_at_call 18; refine (K1.out _).mono ?_; rintro e w9 ⟨rfl, rfl⟩) | (go_at_call 23; refine (K2.out _).mono ?_; rintro e w9 ⟨rfl, rfl⟩))
            go_meet
            exact ⟨rfl, by rw [HRr.out] <;> first | rfl | simp⟩
    case rest =>
      obtain ⟨rfl, rfl⟩ := hcut
      clear K0 K1 K2 HRr
      have hzz := block_lt p0
      have Y0 := Lib.hid p0
      have Y1 := Lib.hid p1
      have Y2 := Lib.hid p2
      have Y3 := Lib.hid p3
      have Y4 := Lib.hid p4
      have Y5 := Lib.hid p5
      have Y6 := Lib.hid p6
      have Y7 := Lib.hid p7
      have HBY := Lib.hid hbw
      have HWX := Lib.hid (fun W (hW : Below wY.heap.size wY W) => HW1.out W (HBY.out.trans (hW.mono HBY.out.size)))
      have HWX2 := Lib.hid (fun W (hW : Below wY.heap.size wY W) => HW2.out W (HBY.out.trans (hW.mono HBY.out.size)))
      clear HW1 HW2 hbw
      have hB : Below wY.heap.size wY wY := Below.refl _ _
      go_wp2_with fail
      go_region_held3 (fun w' => w'.cell? ⟨w.heap.size, 0, none⟩ = some (.int .i64 L) ∧ w'.cell? ⟨w.heap.size, 1, none⟩ = some (.slice a js.length ca) ∧ w'.cell? ⟨w.heap.size, 2, none⟩ = some (.slice aa l.length cl) ∧ w'.cell? ⟨w.heap.size, 3, none⟩ = some (.slice ae q.length cq) ∧ w'.cell? ⟨w.heap.size, 4, none⟩ = some (.int .i64 q0) ∧ w'.cell? ⟨w.heap.size, 5, none⟩ = some (.int .i64 q1) ∧ w'.cell? ⟨w.heap.size, 6, none⟩ = some (.int .i64 q2) ∧ w'.cell? ⟨w.heap.size, 7, none⟩ = some (.int .i64 q3)) (go_keep)
        (first
          | (go_at_call 16
             first | (with_reducible refine Calls.mono (HWX.out _ (show Below wY.heap.size wY _ by first | exact hB | exact hB.drew)) ?_) | (with_reducible refine Calls.mono (HWX2.out _ (show Below wY.heap.size wY _ by first | exact hB | exact hB.drew)) ?_)
             rintro e w9 ⟨rfl, hb9⟩
             replace hB : Below wY.heap.size wY w9 := (show Below wY.heap.size wY _ by first | exact hB | exact hB.drew).trans (hb9.mono (by have := hB.size; first | exact this | (simp; exact this)))
             have p0 := (hB.cell (p := ⟨w.heap.size, 0, none⟩) hzz).trans Y0.out
             have p1 := (hB.cell (p := ⟨w.heap.size, 1, none⟩) hzz).trans Y1.out
             have p2 := (hB.cell (p := ⟨w.heap.size, 2, none⟩) hzz).trans Y2.out
             have p3 := (hB.cell (p := ⟨w.heap.size, 3, none⟩) hzz).trans Y3.out
             have p4 := (hB.cell (p := ⟨w.heap.size, 4, none⟩) hzz).trans Y4.out
             have p5 := (hB.cell (p := ⟨w.heap.size, 5, none⟩) hzz).trans Y5.out
             have p6 := (hB.cell (p := ⟨w.heap.size, 6, none⟩) hzz).trans Y6.out
             have p7 := (hB.cell (p := ⟨w.heap.size, 7, none⟩) hzz).trans Y7.out
             skip))
      all_goals
        have hbw := HBY.out.trans (hB.mono HBY.out.size)
        replace HT1 := Lib.hid (HT1.out.below hB)
        replace HT2 := Lib.hid (HT2.out.below hB)
        by_cases hE1 : E1 = 0
        · by_cases hE2 : E2 = 0
          · skip
            obtain rfl : V1 = VH := by rw [← HV1.out, if_pos hE1]
            subst hE1
            obtain rfl : V2 = VM := by rw [← HV2.out, if_pos hE2]
            subst hE2
            clear HV1 HV2
            go_wp2_with (first | (go_at_call 28; refine (HE1.out (by trivial) _ hbw).mono ?_; rintro e w9 ⟨b3, c3, rfl, hT3, hb9⟩; have HT3 := Lib.hid hT3; clear hT3; replace hbw := hbw.trans (hb9.mono hbw.size); replace p0 := cell_below p0 hb9; replace p1 := cell_below p1 hb9; replace p2 := cell_below p2 hb9; replace p3 := cell_below p3 hb9; replace p4 := cell_below p4 hb9; replace p5 := cell_below p5 hb9; replace p6 := cell_below p6 hb9; replace p7 := cell_below p7 hb9; replace HT1 := Lib.hid (HT1.out.below hb9); replace HT2 := Lib.hid (HT2.out.below hb9); clear hb9) | (go_at_call 29; refine (HE2.out (by trivial) _ hbw).mono ?_; rintro e w9 ⟨b4, c4, rfl, hT4, hb9⟩; have HT4 := Lib.hid hT4; clear hT4; replace hbw := hbw.trans (hb9.mono hbw.size); replace p0 := cell_below p0 hb9; replace p1 := cell_below p1 hb9; replace p2 := cell_below p2 hb9; replace p3 := cell_below p3 hb9; replace p4 := cell_below p4 hb9; replace p5 := cell_below p5 hb9; replace p6 := cell_below p6 hb9; replace p7 := cell_below p7 hb9; replace HT1 := Lib.hid (HT1.out.below hb9); replace HT2 := Lib.hid (HT2.out.below hb9); replace HT3 := Lib.hid (HT3.out.below hb9); clear hb9) | (go_at_call 30; (first | (with_reducible refine Calls.mono (sameHeld_r _ _ _ _ _ _ HT1.out HT3.out) ?_) | (with_reducible refine Calls.mono (sameHeld_r _ _ _ _ _ _ HT2.out HT4.out) ?_)); rintro e w9 ⟨rfl, hb9⟩; replace hbw := hbw.trans (hb9.mono hbw.size); replace HT1 := Lib.hid (HT1.out.below hb9); replace HT2 := Lib.hid (HT2.out.below hb9); replace HT3 := Lib.hid (HT3.out.below hb9); replace HT4 := Lib.hid (HT4.out.below hb9); clear hb9) | (go_at_call 12; refine (first_any _).mono ?_; rintro e w9 ⟨rfl, hb9⟩))
            go_ret
            exact ⟨rfl, hbw.trans (hb9.mono hbw.size)⟩
          · skip
            obtain rfl : V1 = VH := by rw [← HV1.out, if_pos hE1]
            subst hE1
            obtain rfl : V2 = [] := by rw [← HV2.out, if_neg hE2]
            have d2 : (E2 == 0) = false := beq_false_of_ne hE2
            have n2 : (E2 != E2) = false := by simp
            clear HV1 HV2
            go_wp2_with (first | (go_at_call 28; refine (HE1.out (by trivial) _ hbw).mono ?_; rintro e w9 ⟨b3, c3, rfl, hT3, hb9⟩; have HT3 := Lib.hid hT3; clear hT3; replace hbw := hbw.trans (hb9.mono hbw.size); replace p0 := cell_below p0 hb9; replace p1 := cell_below p1 hb9; replace p2 := cell_below p2 hb9; replace p3 := cell_below p3 hb9; replace p4 := cell_below p4 hb9; replace p5 := cell_below p5 hb9; replace p6 := cell_below p6 hb9; replace p7 := cell_below p7 hb9; replace HT1 := Lib.hid (HT1.out.below hb9); replace HT2 := Lib.hid (HT2.out.below hb9); clear hb9) | (go_at_call 30; (first | (with_reducible refine Calls.mono (sameHeld_r _ _ _ _ _ _ HT1.out HT3.out) ?_) | (with_reducible refine Calls.mono (same0_r _ _ _ HT2.out) ?_)); rintro e w9 ⟨rfl, hb9⟩; replace hbw := hbw.trans (hb9.mono hbw.size); replace HT1 := Lib.hid (HT1.out.below hb9); replace HT2 := Lib.hid (HT2.out.below hb9); replace HT3 := Lib.hid (HT3.out.below hb9); clear hb9) | (go_at_call 12; refine (first_any _).mono ?_; rintro e w9 ⟨rfl, hb9⟩))
            go_ret
            exact ⟨rfl, hbw.trans (hb9.mono hbw.size)⟩
        · by_cases hE2 : E2 = 0
          · skip
            obtain rfl : V1 = [] := by rw [← HV1.out, if_neg hE1]
            have d1 : (E1 == 0) = false := beq_false_of_ne hE1
            have n1 : (E1 != E1) = false := by simp
            obtain rfl : V2 = VM := by rw [← HV2.out, if_pos hE2]
            subst hE2
            clear HV1 HV2
            go_wp2_with (first | (go_at_call 29; refine (HE2.out (by trivial) _ hbw).mono ?_; rintro e w9 ⟨b4, c4, rfl, hT4, hb9⟩; have HT4 := Lib.hid hT4; clear hT4; replace hbw := hbw.trans (hb9.mono hbw.size); replace p0 := cell_below p0 hb9; replace p1 := cell_below p1 hb9; replace p2 := cell_below p2 hb9; replace p3 := cell_below p3 hb9; replace p4 := cell_below p4 hb9; replace p5 := cell_below p5 hb9; replace p6 := cell_below p6 hb9; replace p7 := cell_below p7 hb9; replace HT1 := Lib.hid (HT1.out.below hb9); replace HT2 := Lib.hid (HT2.out.below hb9); clear hb9) | (go_at_call 30; (first | (with_reducible refine Calls.mono (same0_r _ _ _ HT1.out) ?_) | (with_reducible refine Calls.mono (sameHeld_r _ _ _ _ _ _ HT2.out HT4.out) ?_)); rintro e w9 ⟨rfl, hb9⟩; replace hbw := hbw.trans (hb9.mono hbw.size); replace HT1 := Lib.hid (HT1.out.below hb9); replace HT2 := Lib.hid (HT2.out.below hb9); replace HT4 := Lib.hid (HT4.out.below hb9); clear hb9) | (go_at_call 12; refine (first_any _).mono ?_; rintro e w9 ⟨rfl, hb9⟩))
            go_ret
            exact ⟨rfl, hbw.trans (hb9.mono hbw.size)⟩
          · skip
            obtain rfl : V1 = [] := by rw [← HV1.out, if_neg hE1]
            have d1 : (E1 == 0) = false := beq_false_of_ne hE1
            have n1 : (E1 != E1) = false := by simp
            obtain rfl : V2 = [] := by rw [← HV2.out, if_neg hE2]
            have d2 : (E2 == 0) = false := beq_false_of_ne hE2
            have n2 : (E2 != E2) = false := by simp
            clear HV1 HV2
            go_wp2_with (first | (go_at_call 30; (first | (with_reducible refine Calls.mono (same0_r _ _ _ HT1.out) ?_) | (with_reducible refine Calls.mono (same0_r _ _ _ HT2.out) ?_)); rintro e w9 ⟨rfl, hb9⟩; replace hbw := hbw.trans (hb9.mono hbw.size); replace HT1 := Lib.hid (HT1.out.below hb9); replace HT2 := Lib.hid (HT2.out.below hb9); clear hb9) | (go_at_call 12; refine (first_any _).mono ?_; rintro e w9 ⟨rfl, hb9⟩))
            go_ret
            exact ⟨rfl, hbw.trans (hb9.mono hbw.size)⟩
end Go.Proofs.YtiagflackfkmnaaGreat

namespace Go.Proofs.YtiagflackfkmnaaGreat
set_option linter.unusedVariables false
set_option linter.unusedSimpArgs false
open Go.RowKit Go.ChangeShapes Go.WideShapes Go.ChangeAt
set_option maxRecDepth 100000

theorem cInt : Tryz.prog.cellsOf 3 = 1 := by kernel_rfl
theorem cInts : Tryz.prog.cellsOf 22 = 1 := by kernel_rfl
section
variable {H : Type} {enc : TypeId × Value → H} {W : World} {base : Nat} {sp : Nat → Bool} {held : Bool}

/-- A cell that reads as an int. -/
theorem part_int {n : Nat} {c : Value} {o : Option (DataW H × List MemPlace)} {y : DataW H × List MemPlace} (ho : o = some y) (h : DataW.trod enc Tryz.prog W base sp held n 3 [c] = o) : ∃ z : Int, c = .int .i64 z ∧ I64 z := by
  obtain ⟨z, e, _, hw⟩ := DataW.trod_int Tryz.underlying3 (h.trans ho)
  exact ⟨z, by simpa using e, bounds_i64 hw⟩
theorem add_at {a : Addr} (h : a.spot = none) (n : Nat) : a.add n = ⟨a.block, a.off + n, none⟩ := by
  unfold Addr.add
  split
  · rename_i h0; subst h0; cases a; simp only at h; subst h; rfl
  · rfl
theorem add_zero (a : Addr) : a.add 0 = a := by unfold Addr.add; simp
theorem spot_none {w : World} {a : Addr} {v : Value} (h : w.cell? a = some v) : a.spot = none := by
  unfold World.cell? at h
  split at h
  · split at h
    · cases h
    · rename_i hs; simpa using hs
  · cases h
theorem addr_of {a : Addr} (h : a.spot = none) : a = ⟨a.block, a.off, none⟩ := by cases a; simp only at h; subst h; rfl
theorem gi_map (f : Nat → Int) {n i : Nat} (h : i < n) : gi ((List.range n).map f) i = f i := by
  unfold gi; rw [List.getD_eq_getElem?_getD, List.getElem?_map, List.getElem?_range h]; rfl
theorem gp_map (f : Nat → Int × Int) {n i : Nat} (h : i < n) : gp ((List.range n).map f) i = f i := by
  unfold gp; rw [List.getD_eq_getElem?_getD, List.getElem?_map, List.getElem?_range h]; rfl
theorem gr_map (f : Nat → List Int) {n i : Nat} (h : i < n) : gr ((List.range n).map f) i = f i := by
  unfold gr; rw [List.getD_eq_getElem?_getD, List.getElem?_map, List.getElem?_range h]; rfl
theorem ne_pos {α : Type} {f : Nat → α} {n : Nat} (h : (List.range n).map f ≠ []) : 0 < n := by
  apply Nat.pos_of_ne_zero
  rintro rfl
  exact h rfl

theorem open_ints {fuel : Nat} {v : Value} {y : DataW H × List MemPlace} (h : DataW.trod enc Tryz.prog W base sp held fuel 22 [v] = some y) :
    ∃ (a : Option Addr) (l : List Int) (cap : Nat), v = .slice a l.length cap ∧ IntsS W a l ∧ l.length ≤ cap := by
  rcases Go.Deep.open_slice1 Tryz.underlying22 cInt h with ⟨hcs, _⟩ | ⟨a, len, cap, m, n, V, D, Pl, hcs, hb, hl, hm, hmm, hx, hi⟩
  · obtain rfl : v = .slice none 0 0 := by simpa using hcs
    exact ⟨none, [], 0, rfl, ⟨by simp, fun i hi => absurd hi (Nat.not_lt_zero _), 0, 0, (fun h => absurd rfl h), fun i hi => absurd hi (Nat.not_lt_zero _)⟩, Nat.le_refl _⟩
  · obtain rfl : v = .slice (some a) len cap := by simpa using hcs
    have hlm : len ≤ m := by rw [hmm]; split <;> omega
    have key0 : ∀ i, i < len → ∃ x : Int, W.cell? (a.add i) = some (.int .i64 x) ∧ I64 x := fun i hil => by
      obtain ⟨hc, ht⟩ := hi i (by omega)
      obtain ⟨z, hz, hb⟩ := part_int rfl ht
      exact ⟨z, by rw [hc, hz], hb⟩
    have hspot : 0 < len → a.spot = none := fun h0 => by
      obtain ⟨x, hc, _⟩ := key0 0 h0
      rw [add_zero] at hc
      exact spot_none hc
    obtain ⟨f, hf⟩ := Go.Deep.choose_lt (α := Int) (n := len) (p := fun i x => W.cell? (a.add i) = some (.int .i64 x) ∧ I64 x) key0
    refine ⟨some a, (List.range len).map f, cap, by simp, ⟨by simp; unfold maxLen at hm; omega, ?_, a.block, a.off, ?_, ?_⟩, by simpa using hl⟩
    · intro i hi
      have hi : i < len := by simpa using hi
      rw [gi_map f hi]
      exact (hf i hi).2
    · intro hne
      rw [← addr_of (hspot (ne_pos hne))]
    · intro i hi
      have hi : i < len := by simpa using hi
      rw [gi_map f hi, ← add_at (hspot (by omega))]
      exact (hf i hi).1

/-- A slice of structs of two ints. -/
theorem open_pairs {t e : TypeId} {f0 f1 : Field} (ht : Tryz.prog.underlying t = some (.slice e)) (he : Tryz.prog.underlying e = some (.struct #[f0, f1])) (hC : Tryz.prog.cellsOf e = 2) (o0 : f0.offset = 0) (o1 : f1.offset = 1) (t0 : f0.type = 3) (t1 : f1.type = 3)
    {fuel : Nat} {v : Value} {y : DataW H × List MemPlace} (h : DataW.trod enc Tryz.prog W base sp held fuel t [v] = some y) :
    ∃ (a : Option Addr) (l : List (Int × Int)) (cap : Nat), v = .slice a l.length cap ∧ PairsS W a l := by
  rcases Go.Deep.open_slice ht h with ⟨hcs, _⟩ | ⟨a, len, cap, m, n, D, Pl, hcs, hb, hl, hm, hmm, hx, hi⟩
  · obtain rfl : v = .slice none 0 0 := by simpa using hcs
    exact ⟨none, [], 0, rfl, by simp, fun i hi => absurd hi (Nat.not_lt_zero _), 0, 0, (fun h => absurd rfl h), fun i hi => absurd hi (Nat.not_lt_zero _)⟩
  · obtain rfl : v = .slice (some a) len cap := by simpa using hcs
    have hlm : len ≤ m := by rw [hmm]; split <;> omega
    rw [hC] at hi
    have key0 : ∀ i, i < len → ∃ x : Int × Int, (W.cell? ((a.add (i * 2)).add 0) = some (.int .i64 x.1) ∧ W.cell? ((a.add (i * 2)).add 1) = some (.int .i64 x.2)) ∧ (I64 x.1 ∧ I64 x.2) := fun i hil => by
      obtain ⟨cs, hc, htr⟩ := hi i (by omega)
      obtain ⟨hcl, _, hat⟩ := World.cells?_some hc
      match cs, hcl with
      | [c0, c1], _ =>
        obtain ⟨y0, y1, n', _, _, g0, g1⟩ := trod_struct2 he htr
        rw [o0, t0, cInt] at g0
        rw [o1, t1, cInt] at g1
        obtain ⟨z0, rfl, b0⟩ := part_int rfl g0
        obtain ⟨z1, rfl, b1⟩ := part_int rfl g1
        exact ⟨(z0, z1), ⟨hat 0 (by decide), hat 1 (by decide)⟩, b0, b1⟩
    have hspot : 0 < len → a.spot = none := fun h0 => by
      obtain ⟨x, ⟨hc, _⟩, _⟩ := key0 0 h0
      rw [show 0 * 2 = 0 from rfl, add_zero, add_zero] at hc
      exact spot_none hc
    obtain ⟨f, hf⟩ := Go.Deep.choose_lt (α := Int × Int) (n := len) (p := fun i x => (W.cell? ((a.add (i * 2)).add 0) = some (.int .i64 x.1) ∧ W.cell? ((a.add (i * 2)).add 1) = some (.int .i64 x.2)) ∧ (I64 x.1 ∧ I64 x.2)) key0
    refine ⟨some a, (List.range len).map f, cap, by simp, by simp; unfold maxLen at hm; omega, ?_, a.block, a.off, ?_, ?_⟩
    · intro i hi
      have hi : i < len := by simpa using hi
      rw [gp_map f hi]
      exact (hf i hi).2
    · intro hne
      rw [← addr_of (hspot (ne_pos hne))]
    · intro i hi
      have hi : i < len := by simpa using hi
      have hs := hspot (by omega)
      have := (hf i hi).1
      rw [add_at hs, add_zero, add_at rfl] at this
      rw [gp_map f hi]
      exact this
theorem part_ints {fuel : Nat} {c : Value} {o : Option (DataW H × List MemPlace)} {y : DataW H × List MemPlace} (ho : o = some y) (h : DataW.trod enc Tryz.prog W base sp held fuel 22 [c] = o) :
    ∃ (a : Option Addr) (l : List Int) (cap : Nat), c = .slice a l.length cap ∧ IntsS W a l ∧ l.length ≤ cap := open_ints (h.trans ho)
theorem cSpan : Tryz.prog.cellsOf 71 = 2 := by kernel_rfl
theorem part_two {t : TypeId} {f0 f1 : Field} (he : Tryz.prog.underlying t = some (.struct #[f0, f1])) (o0 : f0.offset = 0) (o1 : f1.offset = 1) (t0 : f0.type = 3) (t1 : f1.type = 3)
    {fuel : Nat} {c0 c1 : Value} {o : Option (DataW H × List MemPlace)} {y : DataW H × List MemPlace} (hs : o = some y) (h : DataW.trod enc Tryz.prog W base sp held fuel t [c0, c1] = o) :
    ∃ z0 z1 : Int, c0 = .int .i64 z0 ∧ c1 = .int .i64 z1 ∧ I64 z0 ∧ I64 z1 := by
  obtain ⟨y0, y1, n, _, _, g0, g1⟩ := trod_struct2 he (h.trans hs)
  rw [o0, t0, cInt] at g0
  rw [o1, t1, cInt] at g1
  obtain ⟨z0, rfl, b0⟩ := part_int rfl g0
  obtain ⟨z1, rfl, b1⟩ := part_int rfl g1
  exact ⟨z0, z1, rfl, rfl, b0, b1⟩
theorem okWide_array {r : Reach} {b0 : Nat} {t : TypeId} {n : Nat} {e : TypeId} {v : Value} (ht : Tryz.prog.underlying t = some (.array n e)) (h : Value.okWide Tryz.prog W r b0 t v) : ∃ cs : Array Value, v = .agg cs ∧ cs.size = Tryz.prog.cellsOf t := by
  simp only [Value.okWide, ht] at h
  obtain ⟨cs, h1, h2, _⟩ := h
  exact ⟨cs, h1, h2⟩

/-- Two numbers of a small kind. -/
theorem open_duo {t e : TypeId} {k : IntKind} (ht : Tryz.prog.underlying t = some (.array 2 e)) (he : Tryz.prog.underlying e = some (.int k)) (hC : Tryz.prog.cellsOf t = 2) (hE : Tryz.prog.cellsOf e = 1) {v : Value} {d : DataW H} {p : List MemPlace} (hv : Value.okWide Tryz.prog W .any base t v) (h : DataW.Trod enc Tryz.prog W 0 sp held t v d p) :
    ∃ m n : Int, v = .agg #[.int k m, .int k n] ∧ (Lit.int k m).wf = true ∧ (Lit.int k n).wf = true := by
  obtain ⟨⟨cs⟩, rfl, hsz⟩ := okWide_array ht hv
  match cs, hsz.trans hC with
  | [c0, c1], _ =>
    obtain ⟨fuel, hf⟩ := h
    obtain ⟨xs, n, _, _, _, hlen, hg⟩ := DataW.trod_array ht hf
    match xs, hlen with
    | [u0, u1], _ =>
      have g0 := hg 0 (by omega)
      have g1 := hg 1 (by omega)
      rw [hE] at g0 g1
      obtain ⟨z0, e0, _, w0⟩ := DataW.trod_int he (show DataW.trod enc Tryz.prog W 0 sp held n e [c0] = some u0 from g0)
      obtain ⟨z1, e1, _, w1⟩ := DataW.trod_int he (show DataW.trod enc Tryz.prog W 0 sp held n e [c1] = some u1 from g1)
      obtain rfl : c0 = .int k z0 := by simpa using e0
      obtain rfl : c1 = .int k z1 := by simpa using e1
      exact ⟨z0, z1, rfl, w0, w1⟩
theorem open_spans {fuel : Nat} {c : Value} {y : DataW H × List MemPlace} (h : DataW.trod enc Tryz.prog W base sp held fuel 32 [c] = some y) : ∃ (a : Option Addr) (l : List (Int × Int)) (cap : Nat), c = .slice a l.length cap ∧ PairsS W a l :=
  open_pairs Tryz.underlying32 Tryz.underlying71 cSpan rfl rfl rfl rfl h
theorem open_spansV {v : Value} {d : DataW H} {p : List MemPlace} (hv : Value.okWide Tryz.prog W .any base 32 v) (h : DataW.Trod enc Tryz.prog W 0 sp held 32 v d p) :
    ∃ (a : Option Addr) (l : List (Int × Int)) (cap : Nat), v = .slice a l.length cap ∧ PairsS W a l := by
  obtain ⟨a, n, c, rfl⟩ := okWide_slice Tryz.underlying32 hv
  obtain ⟨fuel, hf⟩ := h
  exact open_spans hf
theorem open_intsV {v : Value} {d : DataW H} {p : List MemPlace} (hv : Value.okWide Tryz.prog W .any base 22 v) (h : DataW.Trod enc Tryz.prog W 0 sp held 22 v d p) :
    ∃ (a : Option Addr) (l : List Int) (cap : Nat), v = .slice a l.length cap ∧ IntsS W a l ∧ l.length ≤ cap := by
  obtain ⟨a, n, c, rfl⟩ := okWide_slice Tryz.underlying22 hv
  obtain ⟨fuel, hf⟩ := h
  exact open_ints hf
end
end Go.Proofs.YtiagflackfkmnaaGreat
