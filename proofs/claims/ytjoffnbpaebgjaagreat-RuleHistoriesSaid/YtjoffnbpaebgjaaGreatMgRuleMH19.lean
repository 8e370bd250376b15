/-
  The reference's History. By an AI agent.; The law RuleHistories. By an AI agent.; What is proved: for every line, signs, edicts, direction, topic and metre the law RuleHistories (P7.6) returns true: the moments of signs and edicts, and what a metre was told at all hours. Conditions: none. By an AI agent.
-/
import Derived.Test.YtjoffnbpaebgjaaGreatMgRuleMH7
import Derived.Test.YtjoffnbpaebgjaaGreatMgRuleMH11
import Derived.Test.YtjoffnbpaebgjaaGreatMgRuleMH17
import Derived.Test.YtjoffnbpaebgjaaGreatMgRuleMH18
import Derived.Deep.RegionHeld3
import Derived.Deep.DeepCutAuto
import Derived.BigQuiet
import Derived.BigRegion
import Derived.StillTailTactics
import Derived.Deep.AppendLies
import Derived.Test.YtjoffnbpaebgjaaGreatRows
import Derived.Carry
import Derived.Deep.DeepHandedRow
import Derived.Lay

namespace Go.Proofs.YtjoffnbpaebgjaaGreat
set_option linter.unusedVariables false
set_option linter.unusedSimpArgs false
open Go.RowKit

/-- The hours at which a metre is asked. -/
def hrsL (l : List Sgn) : List Int := putH (momL l []) 0
theorem hrs_asc (l : List Sgn) : (hrsL l).Pairwise (· < ·) := putH_asc (mom_asc l [])
theorem hrs_mem {l : List Sgn} {x : Int} : x ∈ hrsL l ↔ x ∈ momL l [] ∨ x = 0 := by
  unfold hrsL
  rw [putH_mem]
  constructor
  · rintro (h | ⟨h, -⟩)
    · exact .inl h
    · exact .inr h
  · rintro (h | h)
    · exact .inl h
    · exact .inr ⟨h, by omega⟩
theorem hrs_max {l : List Sgn} {x : Int} (h : x ∈ hrsL l) : x ≤ 10000000 := by
  rcases hrs_mem.1 h with h | h
  · exact (mom_mem.1 h).2
  · omega
theorem hrs_all (l : List Sgn) : ascL (momL l [] ++ [0, 10000001]) = hrsL l ++ [10000001] := by
  refine asc_unique (asc_pw _) ?_ fun x => ?_
  · refine List.pairwise_append.2 ⟨hrs_asc l, by simp, fun x hx y hy => ?_⟩
    have := hrs_max hx
    simp only [List.mem_singleton] at hy
    omega
  · rw [asc_iff, List.mem_append, List.mem_append, hrs_mem]
    simp only [List.mem_cons, List.not_mem_nil, or_false]
    constructor
    · rintro (h | h | h)
      · exact .inl (.inl h)
      · exact .inl (.inr h)
      · exact .inr h
    · rintro ((h | h) | h)
      · exact .inl h
      · exact .inr (.inl h)
      · exact .inr (.inr h)
theorem gi_left {l : List Int} (x : Int) {i : Nat} (h : i < l.length) : gi (l ++ [x]) i = gi l i := by
  rw [gi_at _ (by simp; omega), gi_at _ h, List.getElem_append_left h]
theorem gi_last (l : List Int) (x : Int) : gi (l ++ [x]) l.length = x := by
  rw [gi_at _ (by simp)]
  simp
theorem hrs_pos (l : List Sgn) : 0 < (hrsL l).length := List.length_pos_of_mem (hrs_mem.2 (.inr rfl))
theorem prtK_next (z : List Int) (f : Int → Int) (i : Nat) : prtK z f (i + 1 + 1) = prt1 (prtK z f (i + 1)) (gi z i) (gi z (i + 1)) (f (gi z i)) := by
  rw [prtK, if_neg (by omega), Nat.add_sub_cancel]
set_option linter.unnecessarySimpa false
set_option maxRecDepth 100000 in
set_option maxHeartbeats 4000000 in
theorem refHistory_r (L : Int) (a : Option Addr) (js : List Int) (ca : Nat) (aa : Option Addr) (l : List Sgn) (cl : Nat) (dir tp m : Int) (hV : lstE L js l [] = 0) (h2 : topB tp = true) (h3 : btw m 0 (L - 1) = true) (w : World) (hI : IntsS w a js) (hA : SgnS w aa l) :
    Calls Tryz.prog 14 #[.agg #[.int .i64 L, .slice a js.length ca], .slice aa l.length cl, .int .i64 dir, .int .i64 tp, .int .i64 m] w fun e w' => ∃ b c, e = .returned (.slice b (hisL L js l dir tp m).length c) ∧ TriS w' b (hisL L js l dir tp m) ∧ Below w.heap.size w w' := by
  obtain ⟨m1, m2, m3, m4⟩ := mom_good (q := []) (lst_sgns hV) (lst_edcs hV)
  have hml := mom_len m1 m2 m3
  have HMo := Lib.hid (fun W (hW : Below w.heap.size w W) => refMoments_r aa l cl none [] 0 m1 m2 m3 W (hA.below hW) (ed_nilR W))
  have HRH := Lib.hid (fun h W (hW : Below w.heap.size w W) => refHolds_r L a js ca aa l cl h dir tp m hV h2 h3 W (hI.below hW) (hA.below hW))
  have hph := putH_len (momL l []) 0
  have HRes : Hid (hisL L js l dir tp m = prtK (hrsL l ++ [10000001]) (fun h => hldV L js l h dir tp m) (hrsL l ++ [10000001]).length) := Lib.hid (by unfold hisL; rw [hrs_all])
  have HPo := Lib.hid (hrs_pos l)
  have HHr : Hid (putH (momL l []) 0 = hrsL l) := Lib.hid rfl
  obtain ⟨n0, hi, hz0, hz1, hz2⟩ := info_parts toldInfo
  clear hI hA hV h2 h3 m1 m2 m3 m4
  obtain ⟨f, hf⟩ : ∃ f : Int → Int, f = fun h => hldV L js l h dir tp m := ⟨_, rfl⟩
  have HRHf : Hid (∀ h W, Below w.heap.size w W → Calls Tryz.prog 39 #[.agg #[.int .i64 L, .slice a js.length ca], .slice aa l.length cl, .int .i64 h, .int .i64 dir, .int .i64 tp, .int .i64 m] W fun e w' => e = .returned (.int .i64 (f h)) ∧ Below W.heap.size W w') := Lib.hid (by rw [hf]; exact HRH.out)
  rw [← hf] at HRes
  clear hf HRH
  generalize hisL L js l dir tp m = RES at *
  go_enter Tryz.func14, Tryz.ntmps14
  go_upto_region 1 with (fail)
  obtain ⟨wB, hwB⟩ : ∃ wB, w.alloc (.cells #[.int .i64 L, .slice a js.length ca] 24) = wB := ⟨_, rfl⟩
  have hb : Below w.heap.size w wB := by rw [← hwB]; exact (Below.refl _ _).alloc (Nat.le_refl _) _
  have l0 : wB.cell? ⟨w.heap.size, 0, none⟩ = some (.int .i64 L) := by rw [← hwB]; simp [go_sem]
  have l1 : wB.cell? ⟨w.heap.size, 1, none⟩ = some (.slice a js.length ca) := by rw [← hwB]; simp [go_sem]
  rw [hwB]
  clear hwB
  have hzl := block_lt l0
  go_wp2_with (first | (go_at_call 13; refine (HMo.out _ hb).mono ?_; rintro e w4 ⟨a4, c4, rfl, ho4, hb4⟩; have HO4 := Lib.hid ho4; clear ho4) | (go_at_call 38; refine (refPut_r wB.heap.size a4 (momL l []) c4 0 _ (by omega) hb4.size HO4.out).mono ?_; rintro e w5 ⟨ah, ch, rfl, ho5, hb5⟩; have HO5 := Lib.hid ho5; clear ho5))
  rw [HHr.out] at HO5 hph ⊢
  have hhl : (hrsL l).length ≤ 2301 := by omega
  clear HO4 HHr HMo hml hph
  have hbo : Below w.heap.size w w5 := hb.trans ((hb4.trans (hb5.mono hb4.size)).mono hb.size)
  have L0 := Lib.hid (cell_below (cell_below l0 hb4) hb5)
  have L1 := Lib.hid (cell_below (cell_below l1 hb4) hb5)
  clear l0 l1 hb hb4 hb5 hzl
  obtain ⟨hs, hhs⟩ : ∃ hs, hrsL l = hs := ⟨_, rfl⟩
  rw [hhs] at HRes HPo HO5 hhl ⊢
  clear hhs
  have HCz : Hid (∀ k, k < hs.length → ∃ g, ah = some ⟨g, 0, none⟩ ∧ w5.cell? ⟨g, k, none⟩ = some (.int .i64 (gi hs k))) := Lib.hid fun k hk => by
    have h := HO5.out
    rcases h.2 with ⟨h1, h2⟩ | ⟨g2, c2, cur, h1, _⟩
    · omega
    · obtain ⟨rfl, rfl⟩ : ah = some ⟨g2, 0, none⟩ ∧ ch = c2 := by simpa using h1
      refine ⟨g2, rfl, ?_⟩
      rw [World.ownsRow.cellAt h k (by omega)]
      exact clI_get hs (by omega)
  clear HO5
  obtain ⟨wo, rfl⟩ : ∃ wo : World, wo = w5 := ⟨_, rfl⟩
  have HGi : Hid (∀ k, k < hs.length → gi (hs ++ [10000001]) k = gi hs k) := Lib.hid fun k hk => gi_left _ hk
  have HGl : Hid (gi (hs ++ [10000001]) hs.length = 10000001) := Lib.hid (gi_last _ _)
  have HNx := Lib.hid (prtK_next (hs ++ [10000001]) f)
  have HPl := Lib.hid (prtK_len (hs ++ [10000001]) f)
  have HZL : Hid ((hs ++ [(10000001 : Int)]).length = hs.length + 1) := Lib.hid (by simp)
  rw [HZL.out] at HRes
  have HP1 : Hid (prtK (hs ++ [10000001]) f (0 + 1) = []) := Lib.hid rfl
  clear HZL
  obtain ⟨z, hz⟩ : ∃ z, hs ++ [(10000001 : Int)] = z := ⟨_, rfl⟩
  rw [hz] at HRes HGl HP1
  have HGi : Hid (∀ k, k < hs.length → gi z k = gi hs k) := Lib.hid (hz ▸ HGi.out)
  have HNx : Hid (∀ i, prtK z f (i + 1 + 1) = prt1 (prtK z f (i + 1)) (gi z i) (gi z (i + 1)) (f (gi z i))) := Lib.hid (hz ▸ HNx.out)
  have HPl : Hid (∀ k, (prtK z f k).length ≤ k) := Lib.hid (hz ▸ HPl.out)
  clear hz
  go_wp2_with fail
  go_loopw [12, 13] (fun q i9 wr => ∃ (i : Nat) (av : Option Addr) (cv : Nat), i ≤ hs.length ∧ i9 = .int .i64 i ∧ q = .slice av (prtK z f (i + 1)).length cv ∧ Hid (wr.ownsRow wo.heap.size 77 3 (.slice av (prtK z f (i + 1)).length cv) (prtK z f (i + 1)).length (cl3 (prtK z f (i + 1)))) ∧ Below wo.heap.size wo wr) (fun _ i _ => hs.length - (intOf i).toNat)
  case atStart => exact ⟨0, none, 0, Nat.zero_le _, rfl, by rw [HP1.out]; rfl, Lib.hid (by rw [HP1.out]; exact World.ownsRow_nil _ _ _ _), Below.refl _ _⟩
  case round =>
    obtain ⟨i, av, cv, hir, rfl, rfl, HRow, hbr⟩ := hrel
    obtain ⟨wr, rfl⟩ : ∃ wx : World, wx = wr := ⟨_, rfl⟩
    by_cases hlt : i < hs.length
    · obtain ⟨g, rfl, c0⟩ := HCz.out i hlt
      have hil : (i : Int) < (hs.length : Int) := by omega
      have hbw := hbo.trans (hbr.mono hbo.size)
      have C0 := Lib.hid (cell_below c0 hbr)
      have HN := Lib.hid (HNx.out i)
      have hpl := HPl.out (i + 1)
      obtain ⟨T1, hT1⟩ : ∃ T1, gi z (i + 1) = T1 := ⟨_, rfl⟩
      have HTo : Hid (if i + 1 < hs.length then ∃ c : wr.cell? ⟨g, i + 1, none⟩ = some (.int .i64 T1), True else T1 = 10000001) := Lib.hid (by
        split
        next h1 =>
          obtain ⟨g2, hg2, c1⟩ := HCz.out (i + 1) h1
          obtain rfl : g = g2 := by simpa using hg2
          rw [← HGi.out (i + 1) h1, hT1] at c1
          exact ⟨cell_below c1 hbr, trivial⟩
        next h1 =>
          have e : i + 1 = hs.length := by omega
          rw [← hT1, e]
          exact HGl.out)
      rw [hT1, HGi.out i hlt] at HN
      obtain ⟨hh, hhh⟩ : ∃ x, gi hs i = x := ⟨_, rfl⟩
      rw [hhh] at HN C0
      obtain ⟨v, hv⟩ : ∃ v, f hh = v := ⟨_, rfl⟩
      have HRHx : Hid (∀ h W, Below w.heap.size w W → h = hh → Calls Tryz.prog 39 #[.agg #[.int .i64 L, .slice a js.length ca], .slice aa l.length cl, .int .i64 h, .int .i64 dir, .int .i64 tp, .int .i64 m] W fun e w' => e = .returned (.int .i64 v) ∧ Below W.heap.size W w') := Lib.hid fun h W hW e => by
        subst e
        have := HRHf.out h W hW
        rw [hv] at this
        exact this
      rw [hv] at HN
      clear hv hhh hT1 c0 HCz HGi HGl HNx HPl HP1 HRes HPo HRHf
      obtain ⟨S, hS⟩ : ∃ S, prtK z f (i + 1) = S := ⟨_, rfl⟩
      rw [hS] at HN HRow hpl ⊢
      clear hS
      go_upto_if 30 with (fail)
      go_cut [14] (fun x wx => x = .int .i64 T1 ∧ wr = wx)
      case first =>
        obtain ⟨j, hj⟩ : ∃ j : Nat, (i : Int) + 1 = (j : Int) := ⟨i + 1, by omega⟩
        have hjw : IntKind.i64.wrap ((i : Int) + 1) = (j : Int) := by rw [hj]; exact IntWalk.i64_in _ (by omega)
        have hji : i + 1 = j := by omega
        have hT := HTo.out
        rw [hji] at hT
        clear HTo hji C0 HRow HN HRHx
        by_cases h1 : j < hs.length
        · rw [if_pos h1] at hT
          obtain ⟨c1, -⟩ := hT
          have hjl : (j : Int) < (hs.length : Int) := by omega
          go_wp2_with fail
          go_meet
          exact ⟨rfl, rfl⟩
        · rw [if_neg h1] at hT
          have HT := Lib.hid hT
          clear hT
          have hjl : ¬ (j : Int) < (hs.length : Int) := by omega
          go_wp2_with fail
          go_meet
          exact ⟨by rw [HT.out], rfl⟩
      case rest =>
        obtain ⟨rfl, rfl⟩ := hcut
        clear HTo
        have l0 := cell_below L0.out hbr
        have l1 := cell_below L1.out hbr
        have c0 := C0.out
        have hzl := block_lt l0
        have hzg := block_lt c0
        go_wp2_with fail
        refine wp_region_held_drew (S := fun w' => Below wr.heap.size wr w') (by kernel_rfl) ((Below.refl _ _).drew) (fun hHeld => ?_)
        refine wpAnyH_take (i := 0) (oi := { dst := some 36, op := Go.Op.load 24 (Go.Operand.tmp 5), type := 24, pos := "ref.go:364", after := #[], guard := none }) (v := .agg #[.int .i64 L, .slice a js.length ca]) rfl (by kernel_rfl) (by kernel_rfl) (by kernel_rfl) (fun _ _ _ h => h) (.inl ⟨by kernel_rfl, fun w9 h9 => by
          clear hHeld
          have d0 := (h9.cell (p := ⟨w.heap.size, 0, none⟩) hzl).trans l0
          have d1 := (h9.cell (p := ⟨w.heap.size, 1, none⟩) hzl).trans l1
          clear h9
          go_simp⟩) hHeld ?_
        refine takeU (i := 1) (some 37) (.slice aa l.length cl) (by kernel_rfl) (by kernel_rfl) (by kernel_rfl) (by kernel_rfl) (by kernel_rfl) (fun _ => by kernel_rfl) (fun _ _ _ h => h) hHeld ?_
        refine takeU (i := 2) (some 38) (.slice (some ⟨g, 0, none⟩) hs.length ch) (by kernel_rfl) (by kernel_rfl) (by kernel_rfl) (by kernel_rfl) (by kernel_rfl) (fun _ => by kernel_rfl) (fun _ _ _ h => h) hHeld ?_
        refine takeU (i := 3) (some 39) (.int .i64 i) (by kernel_rfl) (by kernel_rfl) (by kernel_rfl) (by kernel_rfl) (by kernel_rfl) (fun _ => by kernel_rfl) (fun _ _ _ h => h) hHeld ?_
        refine wpAnyH_take (i := 4) (oi := { dst := some 40, op := Go.Op.indexAddr 22 (Go.Operand.tmp 38) (Go.Operand.tmp 39), type := 0, pos := "ref.go:364", after := #[{ on := 2, ground := Go.Ground.data }, { on := 3, ground := Go.Ground.data }], guard := none }) (v := .pointer (some ⟨g, i, none⟩)) rfl (by kernel_rfl) (by kernel_rfl) (by kernel_rfl) (fun _ _ _ h => h) (.inl ⟨by kernel_rfl, fun w9 h9 => by
          clear hHeld h9
          go_simp⟩) hHeld ?_
        refine wpAnyH_take (i := 5) (oi := { dst := some 41, op := Go.Op.load 3 (Go.Operand.tmp 40), type := 3, pos := "ref.go:364", after := #[{ on := 4, ground := Go.Ground.data }], guard := none }) (v := .int .i64 hh) rfl (by kernel_rfl) (by kernel_rfl) (by kernel_rfl) (fun _ _ _ h => h) (.inl ⟨by kernel_rfl, fun w9 h9 => by
          clear hHeld
          have d0 := (h9.cell (p := ⟨g, i, none⟩) hzg).trans c0
          clear h9
          go_simp⟩) hHeld ?_
        refine takeU (i := 6) (some 42) (.int .i64 dir) (by kernel_rfl) (by kernel_rfl) (by kernel_rfl) (by kernel_rfl) (by kernel_rfl) (fun _ => by kernel_rfl) (fun _ _ _ h => h) hHeld ?_
        refine takeU (i := 7) (some 43) (.int .i64 tp) (by kernel_rfl) (by kernel_rfl) (by kernel_rfl) (by kernel_rfl) (by kernel_rfl) (fun _ => by kernel_rfl) (fun _ _ _ h => h) hHeld ?_
        refine takeU (i := 8) (some 44) (.int .i64 m) (by kernel_rfl) (by kernel_rfl) (by kernel_rfl) (by kernel_rfl) (by kernel_rfl) (fun _ => by kernel_rfl) (fun _ _ _ h => h) hHeld ?_
        try simp only [Act.put, List.setIfInBounds_toArray, List.set_cons_zero, List.set_cons_succ]
        refine wpAnyH_ready (rs := [9]) (by kernel_rfl) (by simp) ?_
        refine AllReadyH.cons (o := { dst := some 45, op := Go.Op.call { callee := Go.Callee.value (Go.Operand.func 39), args := #[Go.Operand.tmp 36, Go.Operand.tmp 37, Go.Operand.tmp 41, Go.Operand.tmp 42, Go.Operand.tmp 43, Go.Operand.tmp 44], argTypes := #[24, 25, 3, 3, 3, 3] }, type := 3, pos := "ref.go:364", after := #[{ on := 0, ground := Go.Ground.data }, { on := 1, ground := Go.Ground.data }, { on := 5, ground := Go.Ground.data }, { on := 6, ground := Go.Ground.data }, { on := 7, ground := Go.Ground.data }, { on := 8, ground := Go.Ground.data }], guard := none }) rfl (fun K hK => ?_) AllReadyH.nil
        go_simp
        go_at_call 39
        refine (HRHx.out hh _ (hbw.trans (hHeld.mono hbw.size)) rfl).mono ?_
        rintro e w99 ⟨rfl, hb99⟩
        refine hK.out _ _ (hHeld.trans (hb99.mono hHeld.size)) (fun hHeld => ?_)
        clear hK K hb99
        try simp only [Act.put, List.setIfInBounds_toArray, List.set_cons_zero, List.set_cons_succ]
        refine takeU (i := 10) (some 15) (.int .i64 v) (by kernel_rfl) (by kernel_rfl) (by kernel_rfl) (by kernel_rfl) (by kernel_rfl) (fun _ => by kernel_rfl) (fun _ _ _ h => h) hHeld ?_
        refine wpAnyH_done (by kernel_rfl) ?_ _
        try simp only [Act.put, List.setIfInBounds_toArray, List.set_cons_zero, List.set_cons_succ]
        have HRow := Lib.hid (owns_belowI HRow.out hHeld)
        have hbA := hbr.trans (hHeld.mono hbr.size)
        have c0 := cell_below c0 hHeld
        clear hHeld l0 l1 hzl hzg C0 hbr hbw HRHx
        generalize w99 = wA at hbA HRow c0 ⊢
        by_cases h0 : S.length = 0
        · have hS0 := List.eq_nil_of_length_eq_zero h0
          subst hS0
          have HAP : Hid (prtK z f (i + 1 + 1) = [(hh, T1, v)]) := Lib.hid (by rw [HN.out]; rfl)
          clear HN
          have HAP : Hid (0 + 1 = (prtK z f (i + 1 + 1)).length ∧ ([] : List Value) ++ [.int .i64 hh, .int .i64 T1, .int .i64 v] = cl3 (prtK z f (i + 1 + 1))) := Lib.hid (by rw [HAP.out]; exact ⟨rfl, rfl⟩)
          have HRow : Hid (wA.ownsRow wo.heap.size 77 3 (.slice av 0 cv) 0 []) := HRow
          clear h0
          have hown := Lib.hid (HRow.out.alloc (.cells #[.int .i64 hh, .int .i64 T1, .int .i64 v] 77))
          have hbs := hbA.size
          go_wp2_with (first | (at_builtin; go_loud (refine wpList_append_lies _ rfl _ _ 34 rfl wo.heap.size 77 n0 _ 3 24 Tryz.underlying34 hi hz0 hz1 hz2 rfl (by decide) (.slice _ 0 cv) 0 _ (by rfl) hown.out ⟨wA.heap.size, 0, none⟩ 1 1 [.int .i64 hh, .int .i64 T1, .int .i64 v] (by rfl) (by rfl) ?d1 ?d2 (by decide) ?d3 ?d4 ?d5 _ rfl ?_)))
          case d1 =>
            refine World.news_of_block (cs := #[.int .i64 hh, .int .i64 T1, .int .i64 v]) (t := 77) (fr := (0, 0)) ?_
            exact heap_alloc_new _ _
          case d2 => simp [Value.oneCell']
          case d3 => unfold maxLen; omega
          case d4 => omega
          case d5 => first | (simp; omega) | simp | omega
          intro g6 c6 w6 hown6 hgrow6 hat6 hlt6
          have hb6 : Below wo.heap.size wo w6 := ((hbA.alloc hbs _).grown hgrow6 (by first | (simp; omega) | simp | omega) (fun z hz => owns_blockI hown.out hz))

          go_wp2_with fail
          go_roundw
          case rel => exact ⟨i + 1, _, c6, by omega, by go_num, by rw [← HAP.out.1], Lib.hid (by rw [← HAP.out.1, ← HAP.out.2]; exact hown6), hb6⟩
          case measure => simp [intOf]; omega
        · obtain ⟨u, hu⟩ : ∃ u, S.length = u + 1 := ⟨S.length - 1, by omega⟩
          have hui : (S.length : Int) - 1 = (u : Int) := by omega
          have hu0 : (0 : Int) ≤ (u : Int) := by omega
          have hu2 : (u : Int) < (S.length : Int) := by omega
          have hu3 : 0 < S.length := by omega
          have huw : IntKind.i64.wrap ((S.length : Int) - 1) = (u : Int) := by rw [hui]; exact IntWalk.i64_in _ (by omega)
          obtain ⟨gj, hgj⟩ : ∃ gj, av = some ⟨gj, 0, none⟩ := by
            rcases HRow.out.2 with ⟨h1, h2⟩ | ⟨g2, c2, cur, h1, _⟩
            · omega
            · exact ⟨g2, by simpa using (Value.slice.inj h1).1⟩
          subst hgj
          have cy := World.ownsRow.cellAt HRow.out (u * 3 + 2) (by omega)
          rw [(cl3_c S u (by omega)).2.2] at cy
          have cx := World.ownsRow.cellAt HRow.out (u * 3 + 1) (by omega)
          rw [(cl3_c S u (by omega)).2.1] at cx
          have fx := World.ownsRow.frozenAt HRow.out (u * 3 + 1)
          have hgl : wo.heap.size ≤ gj := by
            rcases HRow.out.2 with ⟨h1, h2⟩ | ⟨g2, c2, cur, h1, h2, _⟩
            · omega
            · have : gj = g2 := by simpa using (Value.slice.inj h1).1
              omega
          have HJ : Hid (prt1 S hh T1 v = if (gt3 S u).2.2 = v then S.set u ((gt3 S u).1, T1, v) else S ++ [(hh, T1, v)]) := Lib.hid (by
            unfold prt1
            rw [show S.length - 1 = u by omega]
            by_cases hx : (gt3 S u).2.2 = v
            · rw [if_pos ⟨by omega, hx⟩, if_pos hx]
            · rw [if_neg (fun h => hx h.2), if_neg hx])
          have HSE := Lib.hid (cl3_set S u T1 (by omega))
          by_cases hx : (gt3 S u).2.2 = v
          · have hJ := HJ.out
            rw [if_pos hx] at hJ
            have HNn : Hid (prtK z f (i + 1 + 1) = S.set u ((gt3 S u).1, T1, (gt3 S u).2.2)) := Lib.hid (by rw [HN.out, hJ, hx])
            clear hJ HJ HN
            have HST : Hid (∀ W : World, W.ownsRow wo.heap.size 77 3 (.slice (some ⟨gj, 0, none⟩) S.length cv) S.length (cl3 S) → (W.setCell ⟨gj, u * 3 + 1, none⟩ (.int .i64 T1)).ownsRow wo.heap.size 77 3 (.slice (some ⟨gj, 0, none⟩) (prtK z f (i + 1 + 1)).length cv) (prtK z f (i + 1 + 1)).length (cl3 (prtK z f (i + 1 + 1)))) := Lib.hid fun W h => by
              rw [HNn.out, List.length_set, ← HSE.out]
              exact (World.ownsRow.stored h (u * 3 + 1) (.int .i64 T1)).1
            have HLn : Hid ((prtK z f (i + 1 + 1)).length = S.length) := Lib.hid (by rw [HNn.out, List.length_set])
            clear HNn HSE hu
            generalize (gt3 S u).2.2 = q at *
            generalize (gt3 S u).2.1 = q1 at *
            subst hx
            go_wp2_with fail
            go_roundw
            case rel => exact ⟨i + 1, _, cv, by omega, by go_num, by rw [HLn.out], Lib.hid (by have := HST.out _ HRow.out; rwa [HLn.out] at this ⊢), hbA.setCell (p := ⟨gj, u * 3 + 1, none⟩) hgl _⟩
            case measure => simp [intOf]; omega
          · have hJ := HJ.out
            rw [if_neg hx] at hJ
            have HAP : Hid (S.length + 1 = (prtK z f (i + 1 + 1)).length ∧ cl3 S ++ [.int .i64 hh, .int .i64 T1, .int .i64 v] = cl3 (prtK z f (i + 1 + 1))) := Lib.hid (by rw [HN.out, hJ, cl3_app]; exact ⟨by simp, rfl⟩)
            clear hJ HJ HN hu cx fx HSE
            generalize (gt3 S u).2.2 = q at *
            have hqv : (q == v) = false := beq_false_of_ne hx
            have hown := Lib.hid (HRow.out.alloc (.cells #[.int .i64 hh, .int .i64 T1, .int .i64 v] 77))
            have hbs := hbA.size
            go_wp2_with (first | (at_builtin; go_loud (refine wpList_append_lies _ rfl _ _ 34 rfl wo.heap.size 77 n0 _ 3 24 Tryz.underlying34 hi hz0 hz1 hz2 rfl (by decide) (.slice _ S.length cv) S.length _ (by rfl) hown.out ⟨wA.heap.size, 0, none⟩ 1 1 [.int .i64 hh, .int .i64 T1, .int .i64 v] (by rfl) (by rfl) ?d1 ?d2 (by decide) ?d3 ?d4 ?d5 _ rfl ?_)))
            case d1 =>
              refine World.news_of_block (cs := #[.int .i64 hh, .int .i64 T1, .int .i64 v]) (t := 77) (fr := (0, 0)) ?_
              exact heap_alloc_new _ _
            case d2 => simp [Value.oneCell']
            case d3 => unfold maxLen; omega
            case d4 => omega
            case d5 => first | (simp; omega) | simp | omega
            intro g6 c6 w6 hown6 hgrow6 hat6 hlt6
            have hb6 : Below wo.heap.size wo w6 := ((hbA.alloc hbs _).grown hgrow6 (by first | (simp; omega) | simp | omega) (fun z hz => owns_blockI hown.out hz))

            go_wp2_with fail
            go_roundw
            case rel => exact ⟨i + 1, _, c6, by omega, by go_num, by rw [← HAP.out.1], Lib.hid (by rw [← HAP.out.1, ← HAP.out.2]; exact hown6), hb6⟩
            case measure => simp [intOf]; omega
    · obtain rfl : i = hs.length := by omega
      have hbw := hbo.trans (hbr.mono hbo.size)
      have hpl := HPl.out (hs.length + 1)
      have HEnd : Hid (∃ b c, (Ending.returned (.slice av (prtK z f (hs.length + 1)).length cv)) = .returned (.slice b RES.length c) ∧ TriS wr b RES ∧ Below w.heap.size w wr) := Lib.hid ⟨av, cv, by rw [HRes.out], by rw [HRes.out]; exact tri_own HRow.out (by omega), hbw⟩
      clear HRow
      go_wp2_with fail
      go_ret
      exact HEnd.out
end Go.Proofs.YtjoffnbpaebgjaaGreat

namespace Go.Proofs.YtjoffnbpaebgjaaGreat
set_option linter.unusedVariables false
set_option linter.unusedSimpArgs false
open Go.RowKit

theorem ints0_r (b : Option Addr) (c : Nat) (w : World) (h : IntsS w b []) : Calls Tryz.prog 15 #[.slice b 0 c, .slice none 0 0] w fun e w' => e = .returned (.bool true) ∧ Below w.heap.size w w' := sameInts_r b none [] c 0 w h (ints_nil _ _)
theorem told0_r (b : Option Addr) (c : Nat) (w : World) (h : TriS w b []) : Calls Tryz.prog 16 #[.slice b 0 c, .slice none 0 0] w fun e w' => e = .returned (.bool true) ∧ Below w.heap.size w w' := sameTold_r b none [] c 0 w h (tri_nil w)
set_option linter.unnecessarySimpa false
set_option maxRecDepth 100000 in
set_option maxHeartbeats 4000000 in
theorem ruleHistories_any (L : Int) (a : Option Addr) (js : List Int) (ca : Nat) (aa : Option Addr) (l : List Sgn) (cl : Nat) (ae : Option Addr) (q : List Edc) (cq : Nat) (q0 q1 q2 q3 : Int) (w : World) (hI : IntsS w a js) (hA : SgnS w aa l) (hE : EdS w ae q) : Calls Tryz.prog 3 #[.agg #[.int .i64 L, .slice a js.length ca, .slice aa l.length cl, .slice ae q.length cq, .int .i64 q0, .int .i64 q1, .int .i64 q2, .int .i64 q3]] w fun e w' => e = .returned (.bool true) ∧ Below w.heap.size w w' := by
  have HH := Lib.hid (fun W (hW : Below w.heap.size w W) => Heavy_any L a js ca aa l cl ae q cq q0 q1 q2 q3 W (hI.below hW) (hA.below hW) (hE.below hW))
  have hrr : (dirB q1 && topB q2 && btw q3 0 (L - 1)) = (dirB q1 && topB q2 && decide (0 ≤ q3) && decide (q3 < L)) := by
    have : btw q3 0 (L - 1) = (decide (0 ≤ q3) && decide (q3 < L)) := by
      unfold btw
      have : decide (q3 ≤ L - 1) = decide (q3 < L) := by rw [Bool.eq_iff_iff, decide_eq_true_eq, decide_eq_true_eq]; omega
      rw [this]
    rw [this, Bool.and_assoc (dirB q1 && topB q2)]
  obtain ⟨r, hr⟩ : ∃ r, r = (dirB q1 && topB q2 && btw q3 0 (L - 1)) := ⟨_, rfl⟩
  have HP := Lib.hid (fun W (hW : Below w.heap.size w W) => Moments_any L a js ca aa l cl ae q cq true rfl W (hI.below hW) (hA.below hW) (hE.below hW))
  have HM := Lib.hid (fun W (hW : Below w.heap.size w W) => History_any L a js ca aa l cl q1 q2 q3 (edcsB L js q) r hr W (hI.below hW) (hA.below hW))
  have HW1 := Lib.hid (fun W (hW : Below w.heap.size w W) => why_r L a js ca aa l cl ae q cq q0 q1 q2 q3 true true true W (hI.below hW) (hA.below hW) (hE.below hW))
  have HW2 := Lib.hid (fun r9 W (e : r9 = r) (hW : Below w.heap.size w W) => show Calls Tryz.prog 10 #[.agg #[.int .i64 L, .slice a js.length ca, .slice aa l.length cl, .slice ae q.length cq, .int .i64 q0, .int .i64 q1, .int .i64 q2, .int .i64 q3], .bool true, .bool false, .bool r9] W fun e w' => e = .returned (.int .i64 (whyK (lineB L js) true (sgnsB L js l) false (edcsB L js q) r)) ∧ Below W.heap.size W w' by rw [e]; exact why_r L a js ca aa l cl ae q cq q0 q1 q2 q3 true false r W (hI.below hW) (hA.below hW) (hE.below hW))
  have HE1 : Hid (whyK (lineB L js) true (sgnsB L js l) true (edcsB L js q) true = 0 → ∀ W, Below w.heap.size w W → Calls Tryz.prog 13 #[.slice aa l.length cl, .slice ae q.length cq] W (PutE W.heap.size (momL l q) W)) := Lib.hid fun h W hW => by
    by_cases hV : lstE L js l q = 0
    · obtain ⟨m1, m2, m3, m4⟩ := mom_good (lst_sgns hV) (lst_edcs hV)
      exact refMoments_r aa l cl ae q cq m1 m2 m3 W (hA.below hW) (hE.below hW)
    · rw [(lst_se L js l q _).1 hV] at h; exact absurd h hV
  have HI64 : Hid (whyK (lineB L js) true (sgnsB L js l) true (edcsB L js q) true = 0 → (momL l q).length ≤ 2300 ∧ ∀ j, j < (momL l q).length → I64 (gi (momL l q) j)) := Lib.hid fun h => by
    by_cases hV : lstE L js l q = 0
    · obtain ⟨m1, m2, m3, m4⟩ := mom_good (lst_sgns hV) (lst_edcs hV)
      refine ⟨mom_len m1 m2 m3, fun j hj => ?_⟩
      have := (mom_in (fun x hx => (m4 x hx).1) (gi_mem hj))
      unfold I64
      omega
    · rw [(lst_se L js l q _).1 hV] at h; exact absurd h hV
  have HE2 : Hid (whyK (lineB L js) true (sgnsB L js l) false (edcsB L js q) r = 0 → ∀ W, Below w.heap.size w W → Calls Tryz.prog 14 #[.agg #[.int .i64 L, .slice a js.length ca], .slice aa l.length cl, .int .i64 q1, .int .i64 q2, .int .i64 q3] W fun e w' => ∃ b c, e = .returned (.slice b (hisL L js l q1 q2 q3).length c) ∧ TriS w' b (hisL L js l q1 q2 q3) ∧ Below W.heap.size W w') := Lib.hid fun h W hW => by
    by_cases hV : lstE L js l [] = 0
    · rw [(lst_s L js l true _ _).2 hV] at h
      cases hx : r with
      | false => rw [hx, if_pos rfl] at h; cases h
      | true =>
        rw [hx] at hr
        have hr := hr.symm
        simp only [Bool.and_eq_true] at hr
        exact refHistory_r L a js ca aa l cl q1 q2 q3 hV hr.1.2 hr.2 W (hI.below hW) (hA.below hW)
    · rw [(lst_s L js l true _ _).1 hV] at h; exact absurd h hV
  have HRr := Lib.hid (hr.trans hrr)
  generalize momL l q = VH at *
  generalize hisL L js l q1 q2 q3 = VM at *
  clear hr hrr
  generalize whyK (lineB L js) true (sgnsB L js l) true (edcsB L js q) true = E1 at *
  generalize whyK (lineB L js) true (sgnsB L js l) false (edcsB L js q) r = E2 at *
  obtain ⟨V1, hV1⟩ : ∃ V1, (if E1 = 0 then VH else []) = V1 := ⟨_, rfl⟩
  obtain ⟨V2, hV2⟩ : ∃ V2, (if E2 = 0 then VM else []) = V2 := ⟨_, rfl⟩
  rw [hV1] at HP
  rw [hV2] at HM
  have HV1 := Lib.hid hV1
  have HV2 := Lib.hid hV2
  clear hV1 hV2
  clear hI hA hE
  go_enter Tryz.func3, Tryz.ntmps3
  go_wp2_with fail
  obtain ⟨wB, hwB⟩ : ∃ wB, w.alloc (.cells #[.int .i64 L, .slice a js.length ca, .slice aa l.length cl, .slice ae q.length cq, .int .i64 q0, .int .i64 q1, .int .i64 q2, .int .i64 q3] 28) = wB := ⟨_, rfl⟩
  have hb : Below w.heap.size w wB := by rw [← hwB]; exact (Below.refl _ _).alloc (Nat.le_refl _) _
  have p0 : wB.cell? ⟨w.heap.size, 0, none⟩ = some (.int .i64 L) := by rw [← hwB]; simp [go_sem]
  have p1 : wB.cell? ⟨w.heap.size, 1, none⟩ = some (.slice a js.length ca) := by rw [← hwB]; simp [go_sem]
  have p2 : wB.cell? ⟨w.heap.size, 2, none⟩ = some (.slice aa l.length cl) := by rw [← hwB]; simp [go_sem]
  have p3 : wB.cell? ⟨w.heap.size, 3, none⟩ = some (.slice ae q.length cq) := by rw [← hwB]; simp [go_sem]
  have p4 : wB.cell? ⟨w.heap.size, 4, none⟩ = some (.int .i64 q0) := by rw [← hwB]; simp [go_sem]
  have p5 : wB.cell? ⟨w.heap.size, 5, none⟩ = some (.int .i64 q1) := by rw [← hwB]; simp [go_sem]
  have p6 : wB.cell? ⟨w.heap.size, 6, none⟩ = some (.int .i64 q2) := by rw [← hwB]; simp [go_sem]
  have p7 : wB.cell? ⟨w.heap.size, 7, none⟩ = some (.int .i64 q3) := by rw [← hwB]; simp [go_sem]
  rw [hwB]
  clear hwB
  refine (HH.out _ hb).mono ?_
  rintro e wX ⟨bv, hHv, rfl, hb1⟩
  replace p0 := cell_below p0 hb1
  replace p1 := cell_below p1 hb1
  replace p2 := cell_below p2 hb1
  replace p3 := cell_below p3 hb1
  replace p4 := cell_below p4 hb1
  replace p5 := cell_below p5 hb1
  replace p6 := cell_below p6 hb1
  replace p7 := cell_below p7 hb1
  have hbw := hb.trans (hb1.mono hb.size)
  clear HH hb1
  cases bv with
  | true =>
    clear HP HM HW1 HW2 HE1 HE2 HI64 HRr HV1 HV2 V1 V2 hHv
    go_wp2_with (go_at_call 7; refine (first_any _).mono ?_; rintro e w9 ⟨rfl, hb9⟩)
    go_ret
    exact ⟨rfl, hbw.trans (hb9.mono hbw.size)⟩
  | false =>
    have HHv := Lib.hid (hHv rfl)
    have hz := block_lt p0
    have Z0 := Lib.hid p0
    have Z1 := Lib.hid p1
    have Z2 := Lib.hid p2
    have Z3 := Lib.hid p3
    have Z4 := Lib.hid p4
    have Z5 := Lib.hid p5
    have Z6 := Lib.hid p6
    have Z7 := Lib.hid p7
    have HBW := Lib.hid hbw
    clear p0 p1 p2 p3 p4 p5 p6 p7 hb hbw hHv
    have hbw := HBW.out
    have p0 := Z0.out
    have p1 := Z1.out
    have p2 := Z2.out
    have p3 := Z3.out
    have p4 := Z4.out
    have p5 := Z5.out
    have p6 := Z6.out
    have p7 := Z7.out
    clear Z0 Z1 Z2 Z3 Z4 Z5 Z6 Z7
    go_upto_region 6 with (first | (go_at_call 8; refine (HP.out _ hbw).mono ?_; rintro e w9 ⟨b1, c1, rfl, hT1, hb9⟩; have HT1 := Lib.hid hT1; clear hT1; replace hbw := hbw.trans (hb9.mono hbw.size); replace p0 := cell_below p0 hb9; replace p1 := cell_below p1 hb9; replace p2 := cell_below p2 hb9; replace p3 := cell_below p3 hb9; replace p4 := cell_below p4 hb9; replace p5 := cell_below p5 hb9; replace p6 := cell_below p6 hb9; replace p7 := cell_below p7 hb9; clear hb9) | (go_at_call 9; refine (HM.out _ hbw).mono ?_; rintro e w9 ⟨b2, c2, rfl, hT2, hb9⟩; have HT2 := Lib.hid hT2; clear hT2; replace hbw := hbw.trans (hb9.mono hbw.size); replace p0 := cell_below p0 hb9; replace p1 := cell_below p1 hb9; replace p2 := cell_below p2 hb9; replace p3 := cell_below p3 hb9; replace p4 := cell_below p4 hb9; replace p5 := cell_below p5 hb9; replace p6 := cell_below p6 hb9; replace p7 := cell_below p7 hb9; replace HT1 := Lib.hid (HT1.out.below hb9); clear hb9) | (go_at_call 10; refine (HW1.out _ hbw).mono ?_; rintro e w9 ⟨rfl, hb9⟩; replace hbw := hbw.trans (hb9.mono hbw.size); replace p0 := cell_below p0 hb9; replace p1 := cell_below p1 hb9; replace p2 := cell_below p2 hb9; replace p3 := cell_below p3 hb9; replace p4 := cell_below p4 hb9; replace p5 := cell_below p5 hb9; replace p6 := cell_below p6 hb9; replace p7 := cell_below p7 hb9; replace HT1 := Lib.hid (HT1.out.below hb9); replace HT2 := Lib.hid (HT2.out.below hb9); clear hb9))
    obtain ⟨wY, rfl⟩ : ∃ wY : World, wY = w9 := ⟨_, rfl⟩
    clear HP HM HW1
    have K1 := Lib.hid (fun W => way_r q1 W)
    have K2 := Lib.hid (fun W => topic_r q2 W)
    generalize dirB q1 = b1b at *
    generalize topB q2 = b2b at *
    have hzz := block_lt p0
    go_cut [8] (fun v wx => Below wY.heap.size wY wx ∧ v = .int .i64 E2)
    case first =>
      by_cases z1 : 0 ≤ q3
      · have d1 : decide (0 ≤ q3) = true := decide_eq_true z1
        by_cases z2 : q3 < L
        · have d2 : decide (q3 < L) = true := decide_eq_true z2
          go_wp2_with fail
          refine wp_region_held_drew (S := fun w' => Below wY.heap.size wY w') (by kernel_rfl) ((Below.refl _ _).drew) (fun hHeld => ?_)
          refine wpAnyH_take (i := 0) (oi := { dst := some 40, op := Go.Op.load 28 (Go.Operand.tmp 1), type := 28, pos := "law.go:251", after := #[], guard := none }) (v := .agg #[.int .i64 L, .slice a js.length ca, .slice aa l.length cl, .slice ae q.length cq, .int .i64 q0, .int .i64 q1, .int .i64 q2, .int .i64 q3]) rfl (by kernel_rfl) (by kernel_rfl) (by kernel_rfl) (fun _ _ _ h => h) (.inl ⟨by kernel_rfl, fun w9 h9 => by
            clear hHeld
            have d0 := (h9.cell (p := ⟨w.heap.size, 0, none⟩) hzz).trans p0
            have d1 := (h9.cell (p := ⟨w.heap.size, 1, none⟩) hzz).trans p1
            have d2 := (h9.cell (p := ⟨w.heap.size, 2, none⟩) hzz).trans p2
            have d3 := (h9.cell (p := ⟨w.heap.size, 3, none⟩) hzz).trans p3
            have d4 := (h9.cell (p := ⟨w.heap.size, 4, none⟩) hzz).trans p4
            have d5 := (h9.cell (p := ⟨w.heap.size, 5, none⟩) hzz).trans p5
            have d6 := (h9.cell (p := ⟨w.heap.size, 6, none⟩) hzz).trans p6
            have d7 := (h9.cell (p := ⟨w.heap.size, 7, none⟩) hzz).trans p7
            clear h9
            go_simp⟩) hHeld ?_
          refine takeU (i := 1) (some 41) (.pointer (some ⟨w.heap.size, 5, none⟩)) (by kernel_rfl) (by kernel_rfl) (by kernel_rfl) (by kernel_rfl) (by kernel_rfl) (fun _ => by kernel_rfl) (fun _ _ _ h => h) hHeld ?_
          refine wpAnyH_take (i := 2) (oi := { dst := some 42, op := Go.Op.load 3 (Go.Operand.tmp 41), type := 3, pos := "law.go:251", after := #[{ on := 1, ground := Go.Ground.data }], guard := none }) (v := .int .i64 q1) rfl (by kernel_rfl) (by kernel_rfl) (by kernel_rfl) (fun _ _ _ h => h) (.inl ⟨by kernel_rfl, fun w9 h9 => by
            clear hHeld
            have d0 := (h9.cell (p := ⟨w.heap.size, 5, none⟩) hzz).trans p5
            clear h9
            go_simp⟩) hHeld ?_
          try simp only [Act.put, List.setIfInBounds_toArray, List.set_cons_zero, List.set_cons_succ]
          refine wpAnyH_ready (rs := [3]) (by kernel_rfl) (by simp) ?_
          refine AllReadyH.cons (o := { dst := some 43, op := Go.Op.call { callee := Go.Callee.value (Go.Operand.func 11), args := #[Go.Operand.tmp 42], argTypes := #[3] }, type := 4, pos := "law.go:251", after := #[{ on := 2, ground := Go.Ground.data }], guard := none }) rfl (fun K hK => ?_) AllReadyH.nil
          go_simp
          go_at_call 11
          refine (K1.out _).mono ?_
          rintro e w39 ⟨rfl, rfl⟩
          refine hK.out _ _ hHeld (fun hHeld => ?_)
          clear hK K
          try simp only [Act.put, List.setIfInBounds_toArray, List.set_cons_zero, List.set_cons_succ]
          cases b1b
          · refine takeU (i := 4) (some 44) (.bool false) (by kernel_rfl) (by kernel_rfl) (by kernel_rfl) (by kernel_rfl) (by kernel_rfl) (fun _ => by kernel_rfl) (fun _ _ _ h => h) hHeld ?_
            refine skipU (i := 5) (some 45) (by kernel_rfl) (by kernel_rfl) (by kernel_rfl) (by kernel_rfl) (by kernel_rfl) (fun _ _ _ h => h) hHeld ?_
            refine skipU (i := 6) (some 46) (by kernel_rfl) (by kernel_rfl) (by kernel_rfl) (by kernel_rfl) (by kernel_rfl) (fun _ _ _ h => h) hHeld ?_
            refine skipU (i := 7) (some 47) (by kernel_rfl) (by kernel_rfl) (by kernel_rfl) (by kernel_rfl) (by kernel_rfl) (fun _ _ _ h => h) hHeld ?_
            refine takeU (i := 8) (some 48) (.bool false) (by kernel_rfl) (by kernel_rfl) (by kernel_rfl) (by kernel_rfl) (by kernel_rfl) (fun _ => by kernel_rfl) (fun _ _ _ h => h) hHeld ?_
            refine takeU (i := 9) (some 49) (.bool false) (by kernel_rfl) (by kernel_rfl) (by kernel_rfl) (by kernel_rfl) (by kernel_rfl) (fun _ => by kernel_rfl) (fun _ _ _ h => h) hHeld ?_
            refine skipU (i := 10) (some 50) (by kernel_rfl) (by kernel_rfl) (by kernel_rfl) (by kernel_rfl) (by kernel_rfl) (fun _ _ _ h => h) hHeld ?_
            refine skipU (i := 11) (some 51) (by kernel_rfl) (by kernel_rfl) (by kernel_rfl) (by kernel_rfl) (by kernel_rfl) (fun _ _ _ h => h) hHeld ?_
            refine skipU (i := 12) (some 52) (by kernel_rfl) (by kernel_rfl) (by kernel_rfl) (by kernel_rfl) (by kernel_rfl) (fun _ _ _ h => h) hHeld ?_
            refine takeU (i := 13) (some 53) (.bool false) (by kernel_rfl) (by kernel_rfl) (by kernel_rfl) (by kernel_rfl) (by kernel_rfl) (fun _ => by kernel_rfl) (fun _ _ _ h => h) hHeld ?_
            refine takeU (i := 14) (some 54) (.bool false) (by kernel_rfl) (by kernel_rfl) (by kernel_rfl) (by kernel_rfl) (by kernel_rfl) (fun _ => by kernel_rfl) (fun _ _ _ h => h) hHeld ?_
            refine skipU (i := 15) (some 55) (by kernel_rfl) (by kernel_rfl) (by kernel_rfl) (by kernel_rfl) (by kernel_rfl) (fun _ _ _ h => h) hHeld ?_
            refine skipU (i := 16) (some 56) (by kernel_rfl) (by kernel_rfl) (by kernel_rfl) (by kernel_rfl) (by kernel_rfl) (fun _ _ _ h => h) hHeld ?_
            refine skipU (i := 17) (some 57) (by kernel_rfl) (by kernel_rfl) (by kernel_rfl) (by kernel_rfl) (by kernel_rfl) (fun _ _ _ h => h) hHeld ?_
            refine skipU (i := 18) (some 58) (by kernel_rfl) (by kernel_rfl) (by kernel_rfl) (by kernel_rfl) (by kernel_rfl) (fun _ _ _ h => h) hHeld ?_
            refine skipU (i := 19) (some 59) (by kernel_rfl) (by kernel_rfl) (by kernel_rfl) (by kernel_rfl) (by kernel_rfl) (fun _ _ _ h => h) hHeld ?_
            refine skipU (i := 20) (some 60) (by kernel_rfl) (by kernel_rfl) (by kernel_rfl) (by kernel_rfl) (by kernel_rfl) (fun _ _ _ h => h) hHeld ?_
            refine takeU (i := 21) (some 61) (.bool false) (by kernel_rfl) (by kernel_rfl) (by kernel_rfl) (by kernel_rfl) (by kernel_rfl) (fun _ => by kernel_rfl) (fun _ _ _ h => h) hHeld ?_
            try simp only [Act.put, List.setIfInBounds_toArray, List.set_cons_zero, List.set_cons_succ]
            refine wpAnyH_ready (rs := [22]) (by kernel_rfl) (by simp) ?_
            refine AllReadyH.cons (o := { dst := some 62, op := Go.Op.call { callee := Go.Callee.value (Go.Operand.func 10), args := #[Go.Operand.tmp 40, Go.Operand.const (Go.Value.bool true), Go.Operand.const (Go.Value.bool false), Go.Operand.tmp 61], argTypes := #[28, 4, 4, 4] }, type := 31, pos := "law.go:251", after := #[{ on := 0, ground := Go.Ground.data }, { on := 21, ground := Go.Ground.data }, { on := 14, ground := Go.Ground.chain }], guard := none }) rfl (fun K hK => ?_) AllReadyH.nil
            go_simp
            go_at_call 10
            refine (HW2.out _ _ (by first | rfl | (rw [HRr.out] <;> first | rfl | (simp only [d1, d2]; rfl) | (simp only [d1]; rfl) | simp [d1, d2] | simp [d1] | simp)) (hbw.trans (hHeld.mono hbw.size))).mono ?_
            rintro e w229 ⟨rfl, hb229⟩
            refine hK.out _ _ (hHeld.trans (hb229.mono hHeld.size)) (fun hHeld => ?_)
            clear hK K hb229
            try simp only [Act.put, List.setIfInBounds_toArray, List.set_cons_zero, List.set_cons_succ]
            refine takeU (i := 23) (some 8) (.int .i64 E2) (by kernel_rfl) (by kernel_rfl) (by kernel_rfl) (by kernel_rfl) (by kernel_rfl) (fun _ => by kernel_rfl) (fun _ _ _ h => h) hHeld ?_
            refine wpAnyH_done (by kernel_rfl) ?_ _
            try simp only [Act.put, List.setIfInBounds_toArray, List.set_cons_zero, List.set_cons_succ]
            go_wp2_with fail
            go_meet
            exact ⟨hHeld, rfl⟩
          · refine takeU (i := 4) (some 44) (.bool true) (by kernel_rfl) (by kernel_rfl) (by kernel_rfl) (by kernel_rfl) (by kernel_rfl) (fun _ => by kernel_rfl) (fun _ _ _ h => h) hHeld ?_
            refine takeU (i := 5) (some 45) (.pointer (some ⟨w.heap.size, 6, none⟩)) (by kernel_rfl) (by kernel_rfl) (by kernel_rfl) (by kernel_rfl) (by kernel_rfl) (fun _ => by kernel_rfl) (fun _ _ _ h => h) hHeld ?_
            refine wpAnyH_take (i := 6) (oi := { dst := some 46, op := Go.Op.load 3 (Go.Operand.tmp 45), type := 3, pos := "law.go:251", after := #[{ on := 5, ground := Go.Ground.data }, { on := 4, ground := Go.Ground.guard }], guard := some (4, true) }) (v := .int .i64 q2) rfl (by kernel_rfl) (by kernel_rfl) (by kernel_rfl) (fun _ _ _ h => h) (.inl ⟨by kernel_rfl, fun w9 h9 => by
              clear hHeld
              have d0 := (h9.cell (p := ⟨w.heap.size, 6, none⟩) hzz).trans p6
              clear h9
              go_simp⟩) hHeld ?_
            try simp only [Act.put, List.setIfInBounds_toArray, List.set_cons_zero, List.set_cons_succ]
            refine wpAnyH_ready (rs := [7]) (by kernel_rfl) (by simp) ?_
            refine AllReadyH.cons (o := { dst := some 47, op := Go.Op.call { callee := Go.Callee.value (Go.Operand.func 12), args := #[Go.Operand.tmp 46], argTypes := #[3] }, type := 4, pos := "law.go:251", after := #[{ on := 6, ground := Go.Ground.data }, { on := 4, ground := Go.Ground.chain }, { on := 4, ground := Go.Ground.guard }], guard := some (4, true) }) rfl (fun K hK => ?_) AllReadyH.nil
            go_simp
            go_at_call 12
            refine (K2.out _).mono ?_
            rintro e w79 ⟨rfl, rfl⟩
            refine hK.out _ _ hHeld (fun hHeld => ?_)
            clear hK K
            try simp only [Act.put, List.setIfInBounds_toArray, List.set_cons_zero, List.set_cons_succ]
            cases b2b
            · refine takeU (i := 8) (some 48) (.bool false) (by kernel_rfl) (by kernel_rfl) (by kernel_rfl) (by kernel_rfl) (by kernel_rfl) (fun _ => by kernel_rfl) (fun _ _ _ h => h) hHeld ?_
              refine takeU (i := 9) (some 49) (.bool false) (by kernel_rfl) (by kernel_rfl) (by kernel_rfl) (by kernel_rfl) (by kernel_rfl) (fun _ => by kernel_rfl) (fun _ _ _ h => h) hHeld ?_
              refine skipU (i := 10) (some 50) (by kernel_rfl) (by kernel_rfl) (by kernel_rfl) (by kernel_rfl) (by kernel_rfl) (fun _ _ _ h => h) hHeld ?_
              refine skipU (i := 11) (some 51) (by kernel_rfl) (by kernel_rfl) (by kernel_rfl) (by kernel_rfl) (by kernel_rfl) (fun _ _ _ h => h) hHeld ?_
              refine skipU (i := 12) (some 52) (by kernel_rfl) (by kernel_rfl) (by kernel_rfl) (by kernel_rfl) (by kernel_rfl) (fun _ _ _ h => h) hHeld ?_
              refine takeU (i := 13) (some 53) (.bool false) (by kernel_rfl) (by kernel_rfl) (by kernel_rfl) (by kernel_rfl) (by kernel_rfl) (fun _ => by kernel_rfl) (fun _ _ _ h => h) hHeld ?_
              refine takeU (i := 14) (some 54) (.bool false) (by kernel_rfl) (by kernel_rfl) (by kernel_rfl) (by kernel_rfl) (by kernel_rfl) (fun _ => by kernel_rfl) (fun _ _ _ h => h) hHeld ?_
              refine skipU (i := 15) (some 55) (by kernel_rfl) (by kernel_rfl) (by kernel_rfl) (by kernel_rfl) (by kernel_rfl) (fun _ _ _ h => h) hHeld ?_
              refine skipU (i := 16) (some 56) (by kernel_rfl) (by kernel_rfl) (by kernel_rfl) (by kernel_rfl) (by kernel_rfl) (fun _ _ _ h => h) hHeld ?_
              refine skipU (i := 17) (some 57) (by kernel_rfl) (by kernel_rfl) (by kernel_rfl) (by kernel_rfl) (by kernel_rfl) (fun _ _ _ h => h) hHeld ?_
              refine skipU (i := 18) (some 58) (by kernel_rfl) (by kernel_rfl) (by kernel_rfl) (by kernel_rfl) (by kernel_rfl) (fun _ _ _ h => h) hHeld ?_
              refine skipU (i := 19) (some 59) (by kernel_rfl) (by kernel_rfl) (by kernel_rfl) (by kernel_rfl) (by kernel_rfl) (fun _ _ _ h => h) hHeld ?_
              refine skipU (i := 20) (some 60) (by kernel_rfl) (by kernel_rfl) (by kernel_rfl) (by kernel_rfl) (by kernel_rfl) (fun _ _ _ h => h) hHeld ?_
              refine takeU (i := 21) (some 61) (.bool false) (by kernel_rfl) (by kernel_rfl) (by kernel_rfl) (by kernel_rfl) (by kernel_rfl) (fun _ => by kernel_rfl) (fun _ _ _ h => h) hHeld ?_
              try simp only [Act.put, List.setIfInBounds_toArray, List.set_cons_zero, List.set_cons_succ]
              refine wpAnyH_ready (rs := [22]) (by kernel_rfl) (by simp) ?_
              refine AllReadyH.cons (o := { dst := some 62, op := Go.Op.call { callee := Go.Callee.value (Go.Operand.func 10), args := #[Go.Operand.tmp 40, Go.Operand.const (Go.Value.bool true), Go.Operand.const (Go.Value.bool false), Go.Operand.tmp 61], argTypes := #[28, 4, 4, 4] }, type := 31, pos := "law.go:251", after := #[{ on := 0, ground := Go.Ground.data }, { on := 21, ground := Go.Ground.data }, { on := 14, ground := Go.Ground.chain }], guard := none }) rfl (fun K hK => ?_) AllReadyH.nil
              go_simp
              go_at_call 10
              refine (HW2.out _ _ (by first | rfl | (rw [HRr.out] <;> first | rfl | (simp only [d1, d2]; rfl) | (simp only [d1]; rfl) | simp [d1, d2] | simp [d1] | simp)) (hbw.trans (hHeld.mono hbw.size))).mono ?_
              rintro e w229 ⟨rfl, hb229⟩
              refine hK.out _ _ (hHeld.trans (hb229.mono hHeld.size)) (fun hHeld => ?_)
              clear hK K hb229
              try simp only [Act.put, List.setIfInBounds_toArray, List.set_cons_zero, List.set_cons_succ]
              refine takeU (i := 23) (some 8) (.int .i64 E2) (by kernel_rfl) (by kernel_rfl) (by kernel_rfl) (by kernel_rfl) (by kernel_rfl) (fun _ => by kernel_rfl) (fun _ _ _ h => h) hHeld ?_
              refine wpAnyH_done (by kernel_rfl) ?_ _
              try simp only [Act.put, List.setIfInBounds_toArray, List.set_cons_zero, List.set_cons_succ]
              go_wp2_with fail
              go_meet
              exact ⟨hHeld, rfl⟩
            · refine takeU (i := 8) (some 48) (.bool true) (by kernel_rfl) (by kernel_rfl) (by kernel_rfl) (by kernel_rfl) (by kernel_rfl) (fun _ => by kernel_rfl) (fun _ _ _ h => h) hHeld ?_
              refine takeU (i := 9) (some 49) (.bool true) (by kernel_rfl) (by kernel_rfl) (by kernel_rfl) (by kernel_rfl) (by kernel_rfl) (fun _ => by kernel_rfl) (fun _ _ _ h => h) hHeld ?_
              refine takeU (i := 10) (some 50) (.pointer (some ⟨w.heap.size, 7, none⟩)) (by kernel_rfl) (by kernel_rfl) (by kernel_rfl) (by kernel_rfl) (by kernel_rfl) (fun _ => by kernel_rfl) (fun _ _ _ h => h) hHeld ?_
              refine wpAnyH_take (i := 11) (oi := { dst := some 51, op := Go.Op.load 3 (Go.Operand.tmp 50), type := 3, pos := "law.go:251", after := #[{ on := 10, ground := Go.Ground.data }, { on := 9, ground := Go.Ground.guard }], guard := some (9, true) }) (v := .int .i64 q3) rfl (by kernel_rfl) (by kernel_rfl) (by kernel_rfl) (fun _ _ _ h => h) (.inl ⟨by kernel_rfl, fun w9 h9 => by
                clear hHeld
                have d0 := (h9.cell (p := ⟨w.heap.size, 7, none⟩) hzz).trans p7
                clear h9
                go_simp⟩) hHeld ?_
              refine wpAnyH_take (i := 12) (oi := { dst := some 52, op := Go.Op.binOp Go.BinOp.geq 3 (Go.Operand.tmp 51) (Go.Operand.const (Go.Value.int Go.IntKind.i64 0)) 3, type := 4, pos := "law.go:251", after := #[{ on := 11, ground := Go.Ground.data }, { on := 9, ground := Go.Ground.guard }], guard := some (9, true) }) (v := .bool true) rfl (by kernel_rfl) (by kernel_rfl) (by kernel_rfl) (fun _ _ _ h => h) (.inl ⟨by kernel_rfl, fun w9 h9 => by
                clear hHeld h9
                go_simp⟩) hHeld ?_
              refine takeU (i := 13) (some 53) (.bool true) (by kernel_rfl) (by kernel_rfl) (by kernel_rfl) (by kernel_rfl) (by kernel_rfl) (fun _ => by kernel_rfl) (fun _ _ _ h => h) hHeld ?_
              refine takeU (i := 14) (some 54) (.bool true) (by kernel_rfl) (by kernel_rfl) (by kernel_rfl) (by kernel_rfl) (by kernel_rfl) (fun _ => by kernel_rfl) (fun _ _ _ h => h) hHeld ?_
              refine takeU (i := 15) (some 55) (.pointer (some ⟨w.heap.size, 7, none⟩)) (by kernel_rfl) (by kernel_rfl) (by kernel_rfl) (by kernel_rfl) (by kernel_rfl) (fun _ => by kernel_rfl) (fun _ _ _ h => h) hHeld ?_
              refine wpAnyH_take (i := 16) (oi := { dst := some 56, op := Go.Op.load 3 (Go.Operand.tmp 55), type := 3, pos := "law.go:251", after := #[{ on := 15, ground := Go.Ground.data }, { on := 14, ground := Go.Ground.guard }], guard := some (14, true) }) (v := .int .i64 q3) rfl (by kernel_rfl) (by kernel_rfl) (by kernel_rfl) (fun _ _ _ h => h) (.inl ⟨by kernel_rfl, fun w9 h9 => by
                clear hHeld
                have d0 := (h9.cell (p := ⟨w.heap.size, 7, none⟩) hzz).trans p7
                clear h9
                go_simp⟩) hHeld ?_
              refine takeU (i := 17) (some 57) (.pointer (some ⟨w.heap.size, 0, none⟩)) (by kernel_rfl) (by kernel_rfl) (by kernel_rfl) (by kernel_rfl) (by kernel_rfl) (fun _ => by kernel_rfl) (fun _ _ _ h => h) hHeld ?_
              refine takeU (i := 18) (some 58) (.pointer (some ⟨w.heap.size, 0, none⟩)) (by kernel_rfl) (by kernel_rfl) (by kernel_rfl) (by kernel_rfl) (by kernel_rfl) (fun _ => by kernel_rfl) (fun _ _ _ h => h) hHeld ?_
              refine wpAnyH_take (i := 19) (oi := { dst := some 59, op := Go.Op.load 3 (Go.Operand.tmp 58), type := 3, pos := "law.go:251", after := #[{ on := 18, ground := Go.Ground.data }, { on := 14, ground := Go.Ground.guard }], guard := some (14, true) }) (v := .int .i64 L) rfl (by kernel_rfl) (by kernel_rfl) (by kernel_rfl) (fun _ _ _ h => h) (.inl ⟨by kernel_rfl, fun w9 h9 => by
                clear hHeld
                have d0 := (h9.cell (p := ⟨w.heap.size, 0, none⟩) hzz).trans p0
                clear h9
                go_simp⟩) hHeld ?_
              refine wpAnyH_take (i := 20) (oi := { dst := some 60, op := Go.Op.binOp Go.BinOp.lss 3 (Go.Operand.tmp 56) (Go.Operand.tmp 59) 3, type := 4, pos := "law.go:251", after := #[{ on := 16, ground := Go.Ground.data }, { on := 19, ground := Go.Ground.data }, { on := 14, ground := Go.Ground.guard }], guard := some (14, true) }) (v := .bool true) rfl (by kernel_rfl) (by kernel_rfl) (by kernel_rfl) (fun _ _ _ h => h) (.inl ⟨by kernel_rfl, fun w9 h9 => by
                clear hHeld h9
                go_simp⟩) hHeld ?_
              refine takeU (i := 21) (some 61) (.bool true) (by kernel_rfl) (by kernel_rfl) (by kernel_rfl) (by kernel_rfl) (by kernel_rfl) (fun _ => by kernel_rfl) (fun _ _ _ h => h) hHeld ?_
              try simp only [Act.put, List.setIfInBounds_toArray, List.set_cons_zero, List.set_cons_succ]
              refine wpAnyH_ready (rs := [22]) (by kernel_rfl) (by simp) ?_
              refine AllReadyH.cons (o := { dst := some 62, op := Go.Op.call { callee := Go.Callee.value (Go.Operand.func 10), args := #[Go.Operand.tmp 40, Go.Operand.const (Go.Value.bool true), Go.Operand.const (Go.Value.bool false), Go.Operand.tmp 61], argTypes := #[28, 4, 4, 4] }, type := 31, pos := "law.go:251", after := #[{ on := 0, ground := Go.Ground.data }, { on := 21, ground := Go.Ground.data }, { on := 14, ground := Go.Ground.chain }], guard := none }) rfl (fun K hK => ?_) AllReadyH.nil
              go_simp
              go_at_call 10
              refine (HW2.out _ _ (by first | rfl | (rw [HRr.out] <;> first | rfl | (simp only [d1, d2]; rfl) | (simp only [d1]; rfl) | simp [d1, d2] | simp [d1] | simp)) (hbw.trans (hHeld.mono hbw.size))).mono ?_
              rintro e w229 ⟨rfl, hb229⟩
              refine hK.out _ _ (hHeld.trans (hb229.mono hHeld.size)) (fun hHeld => ?_)
              clear hK K hb229
              try simp only [Act.put, List.setIfInBounds_toArray, List.set_cons_zero, List.set_cons_succ]
              refine takeU (i := 23) (some 8) (.int .i64 E2) (by kernel_rfl) (by kernel_rfl) (by kernel_rfl) (by kernel_rfl) (by kernel_rfl) (fun _ => by kernel_rfl) (fun _ _ _ h => h) hHeld ?_
              refine wpAnyH_done (by kernel_rfl) ?_ _
              try simp only [Act.put, List.setIfInBounds_toArray, List.set_cons_zero, List.set_cons_succ]
              go_wp2_with fail
              go_meet
              exact ⟨hHeld, rfl⟩
        · have d2 : decide (q3 < L) = false := decide_eq_false z2
          go_wp2_with fail
          refine wp_region_held_drew (S := fun w' => Below wY.heap.size wY w') (by kernel_rfl) ((Below.refl _ _).drew) (fun hHeld => ?_)
          refine wpAnyH_take (i := 0) (oi := { dst := some 40, op := Go.Op.load 28 (Go.Operand.tmp 1), type := 28, pos := "law.go:251", after := #[], guard := none }) (v := .agg #[.int .i64 L, .slice a js.length ca, .slice aa l.length cl, .slice ae q.length cq, .int .i64 q0, .int .i64 q1, .int .i64 q2, .int .i64 q3]) rfl (by kernel_rfl) (by kernel_rfl) (by kernel_rfl) (fun _ _ _ h => h) (.inl ⟨by kernel_rfl, fun w9 h9 => by
            clear hHeld
            have d0 := (h9.cell (p := ⟨w.heap.size, 0, none⟩) hzz).trans p0
            have d1 := (h9.cell (p := ⟨w.heap.size, 1, none⟩) hzz).trans p1
            have d2 := (h9.cell (p := ⟨w.heap.size, 2, none⟩) hzz).trans p2
            have d3 := (h9.cell (p := ⟨w.heap.size, 3, none⟩) hzz).trans p3
            have d4 := (h9.cell (p := ⟨w.heap.size, 4, none⟩) hzz).trans p4
            have d5 := (h9.cell (p := ⟨w.heap.size, 5, none⟩) hzz).trans p5
            have d6 := (h9.cell (p := ⟨w.heap.size, 6, none⟩) hzz).trans p6
            have d7 := (h9.cell (p := ⟨w.heap.size, 7, none⟩) hzz).trans p7
            clear h9
            go_simp⟩) hHeld ?_
          refine takeU (i := 1) (some 41) (.pointer (some ⟨w.heap.size, 5, none⟩)) (by kernel_rfl) (by kernel_rfl) (by kernel_rfl) (by kernel_rfl) (by kernel_rfl) (fun _ => by kernel_rfl) (fun _ _ _ h => h) hHeld ?_
          refine wpAnyH_take (i := 2) (oi := { dst := some 42, op := Go.Op.load 3 (Go.Operand.tmp 41), type := 3, pos := "law.go:251", after := #[{ on := 1, ground := Go.Ground.data }], guard := none }) (v := .int .i64 q1) rfl (by kernel_rfl) (by kernel_rfl) (by kernel_rfl) (fun _ _ _ h => h) (.inl ⟨by kernel_rfl, fun w9 h9 => by
            clear hHeld
            have d0 := (h9.cell (p := ⟨w.heap.size, 5, none⟩) hzz).trans p5
            clear h9
            go_simp⟩) hHeld ?_
          try simp only [Act.put, List.setIfInBounds_toArray, List.set_cons_zero, List.set_cons_succ]
          refine wpAnyH_ready (rs := [3]) (by kernel_rfl) (by simp) ?_
          refine AllReadyH.cons (o := { dst := some 43, op := Go.Op.call { callee := Go.Callee.value (Go.Operand.func 11), args := #[Go.Operand.tmp 42], argTypes := #[3] }, type := 4, pos := "law.go:251", after := #[{ on := 2, ground := Go.Ground.data }], guard := none }) rfl (fun K hK => ?_) AllReadyH.nil
          go_simp
          go_at_call 11
          refine (K1.out _).mono ?_
          rintro e w39 ⟨rfl, rfl⟩
          refine hK.out _ _ hHeld (fun hHeld => ?_)
          clear hK K
          try simp only [Act.put, List.setIfInBounds_toArray, List.set_cons_zero, List.set_cons_succ]
          cases b1b
          · refine takeU (i := 4) (some 44) (.bool false) (by kernel_rfl) (by kernel_rfl) (by kernel_rfl) (by kernel_rfl) (by kernel_rfl) (fun _ => by kernel_rfl) (fun _ _ _ h => h) hHeld ?_
            refine skipU (i := 5) (some 45) (by kernel_rfl) (by kernel_rfl) (by kernel_rfl) (by kernel_rfl) (by kernel_rfl) (fun _ _ _ h => h) hHeld ?_
            refine skipU (i := 6) (some 46) (by kernel_rfl) (by kernel_rfl) (by kernel_rfl) (by kernel_rfl) (by kernel_rfl) (fun _ _ _ h => h) hHeld ?_
            refine skipU (i := 7) (some 47) (by kernel_rfl) (by kernel_rfl) (by kernel_rfl) (by kernel_rfl) (by kernel_rfl) (fun _ _ _ h => h) hHeld ?_
            refine takeU (i := 8) (some 48) (.bool false) (by kernel_rfl) (by kernel_rfl) (by kernel_rfl) (by kernel_rfl) (by kernel_rfl) (fun _ => by kernel_rfl) (fun _ _ _ h => h) hHeld ?_
            refine takeU (i := 9) (some 49) (.bool false) (by kernel_rfl) (by kernel_rfl) (by kernel_rfl) (by kernel_rfl) (by kernel_rfl) (fun _ => by kernel_rfl) (fun _ _ _ h => h) hHeld ?_
            refine skipU (i := 10) (some 50) (by kernel_rfl) (by kernel_rfl) (by kernel_rfl) (by kernel_rfl) (by kernel_rfl) (fun _ _ _ h => h) hHeld ?_
            refine skipU (i := 11) (some 51) (by kernel_rfl) (by kernel_rfl) (by kernel_rfl) (by kernel_rfl) (by kernel_rfl) (fun _ _ _ h => h) hHeld ?_
            refine skipU (i := 12) (some 52) (by kernel_rfl) (by kernel_rfl) (by kernel_rfl) (by kernel_rfl) (by kernel_rfl) (fun _ _ _ h => h) hHeld ?_
            refine takeU (i := 13) (some 53) (.bool false) (by kernel_rfl) (by kernel_rfl) (by kernel_rfl) (by kernel_rfl) (by kernel_rfl) (fun _ => by kernel_rfl) (fun _ _ _ h => h) hHeld ?_
            refine takeU (i := 14) (some 54) (.bool false) (by kernel_rfl) (by kernel_rfl) (by kernel_rfl) (by kernel_rfl) (by kernel_rfl) (fun _ => by kernel_rfl) (fun _ _ _ h => h) hHeld ?_
            refine skipU (i := 15) (some 55) (by kernel_rfl) (by kernel_rfl) (by kernel_rfl) (by kernel_rfl) (by kernel_rfl) (fun _ _ _ h => h) hHeld ?_
            refine skipU (i := 16) (some 56) (by kernel_rfl) (by kernel_rfl) (by kernel_rfl) (by kernel_rfl) (by kernel_rfl) (fun _ _ _ h => h) hHeld ?_
            refine skipU (i := 17) (some 57) (by kernel_rfl) (by kernel_rfl) (by kernel_rfl) (by kernel_rfl) (by kernel_rfl) (fun _ _ _ h => h) hHeld ?_
            refine skipU (i := 18) (some 58) (by kernel_rfl) (by kernel_rfl) (by kernel_rfl) (by kernel_rfl) (by kernel_rfl) (fun _ _ _ h => h) hHeld ?_
            refine skipU (i := 19) (some 59) (by kernel_rfl) (by kernel_rfl) (by kernel_rfl) (by kernel_rfl) (by kernel_rfl) (fun _ _ _ h => h) hHeld ?_
            refine skipU (i := 20) (some 60) (by kernel_rfl) (by kernel_rfl) (by kernel_rfl) (by kernel_rfl) (by kernel_rfl) (fun _ _ _ h => h) hHeld ?_
            refine takeU (i := 21) (some 61) (.bool false) (by kernel_rfl) (by kernel_rfl) (by kernel_rfl) (by kernel_rfl) (by kernel_rfl) (fun _ => by kernel_rfl) (fun _ _ _ h => h) hHeld ?_
            try simp only [Act.put, List.setIfInBounds_toArray, List.set_cons_zero, List.set_cons_succ]
            refine wpAnyH_ready (rs := [22]) (by kernel_rfl) (by simp) ?_
            refine AllReadyH.cons (o := { dst := some 62, op := Go.Op.call { callee := Go.Callee.value (Go.Operand.func 10), args := #[Go.Operand.tmp 40, Go.Operand.const (Go.Value.bool true), Go.Operand.const (Go.Value.bool false), Go.Operand.tmp 61], argTypes := #[28, 4, 4, 4] }, type := 31, pos := "law.go:251", after := #[{ on := 0, ground := Go.Ground.data }, { on := 21, ground := Go.Ground.data }, { on := 14, ground := Go.Ground.chain }], guard := none }) rfl (fun K hK => ?_) AllReadyH.nil
            go_simp
            go_at_call 10
            refine (HW2.out _ _ (by first | rfl | (rw [HRr.out] <;> first | rfl | (simp only [d1, d2]; rfl) | (simp only [d1]; rfl) | simp [d1, d2] | simp [d1] | simp)) (hbw.trans (hHeld.mono hbw.size))).mono ?_
            rintro e w229 ⟨rfl, hb229⟩
            refine hK.out _ _ (hHeld.trans (hb229.mono hHeld.size)) (fun hHeld => ?_)
            clear hK K hb229
            try simp only [Act.put, List.setIfInBounds_toArray, List.set_cons_zero, List.set_cons_succ]
            refine takeU (i := 23) (some 8) (.int .i64 E2) (by kernel_rfl) (by kernel_rfl) (by kernel_rfl) (by kernel_rfl) (by kernel_rfl) (fun _ => by kernel_rfl) (fun _ _ _ h => h) hHeld ?_
            refine wpAnyH_done (by kernel_rfl) ?_ _
            try simp only [Act.put, List.setIfInBounds_toArray, List.set_cons_zero, List.set_cons_succ]
            go_wp2_with fail
            go_meet
            exact ⟨hHeld, rfl⟩
          · refine takeU (i := 4) (some 44) (.bool true) (by kernel_rfl) (by kernel_rfl) (by kernel_rfl) (by kernel_rfl) (by kernel_rfl) (fun _ => by kernel_rfl) (fun _ _ _ h => h) hHeld ?_
            refine takeU (i := 5) (some 45) (.pointer (some ⟨w.heap.size, 6, none⟩)) (by kernel_rfl) (by kernel_rfl) (by kernel_rfl) (by kernel_rfl) (by kernel_rfl) (fun _ => by kernel_rfl) (fun _ _ _ h => h) hHeld ?_
            refine wpAnyH_take (i := 6) (oi := { dst := some 46, op := Go.Op.load 3 (Go.Operand.tmp 45), type := 3, pos := "law.go:251", after := #[{ on := 5, ground := Go.Ground.data }, { on := 4, ground := Go.Ground.guard }], guard := some (4, true) }) (v := .int .i64 q2) rfl (by kernel_rfl) (by kernel_rfl) (by kernel_rfl) (fun _ _ _ h => h) (.inl ⟨by kernel_rfl, fun w9 h9 => by
              clear hHeld
              have d0 := (h9.cell (p := ⟨w.heap.size, 6, none⟩) hzz).trans p6
              clear h9
              go_simp⟩) hHeld ?_
            try simp only [Act.put, List.setIfInBounds_toArray, List.set_cons_zero, List.set_cons_succ]
            refine wpAnyH_ready (rs := [7]) (by kernel_rfl) (by simp) ?_
            refine AllReadyH.cons (o := { dst := some 47, op := Go.Op.call { callee := Go.Callee.value (Go.Operand.func 12), args := #[Go.Operand.tmp 46], argTypes := #[3] }, type := 4, pos := "law.go:251", after := #[{ on := 6, ground := Go.Ground.data }, { on := 4, ground := Go.Ground.chain }, { on := 4, ground := Go.Ground.guard }], guard := some (4, true) }) rfl (fun K hK => ?_) AllReadyH.nil
            go_simp
            go_at_call 12
            refine (K2.out _).mono ?_
            rintro e w79 ⟨rfl, rfl⟩
            refine hK.out _ _ hHeld (fun hHeld => ?_)
            clear hK K
            try simp only [Act.put, List.setIfInBounds_toArray, List.set_cons_zero, List.set_cons_succ]
            cases b2b
            · refine takeU (i := 8) (some 48) (.bool false) (by kernel_rfl) (by kernel_rfl) (by kernel_rfl) (by kernel_rfl) (by kernel_rfl) (fun _ => by kernel_rfl) (fun _ _ _ h => h) hHeld ?_
              refine takeU (i := 9) (some 49) (.bool false) (by kernel_rfl) (by kernel_rfl) (by kernel_rfl) (by kernel_rfl) (by kernel_rfl) (fun _ => by kernel_rfl) (fun _ _ _ h => h) hHeld ?_
              refine skipU (i := 10) (some 50) (by kernel_rfl) (by kernel_rfl) (by kernel_rfl) (by kernel_rfl) (by kernel_rfl) (fun _ _ _ h => h) hHeld ?_
              refine skipU (i := 11) (some 51) (by kernel_rfl) (by kernel_rfl) (by kernel_rfl) (by kernel_rfl) (by kernel_rfl) (fun _ _ _ h => h) hHeld ?_
              refine skipU (i := 12) (some 52) (by kernel_rfl) (by kernel_rfl) (by kernel_rfl) (by kernel_rfl) (by kernel_rfl) (fun _ _ _ h => h) hHeld ?_
              refine takeU (i := 13) (some 53) (.bool false) (by kernel_rfl) (by kernel_rfl) (by kernel_rfl) (by kernel_rfl) (by kernel_rfl) (fun _ => by kernel_rfl) (fun _ _ _ h => h) hHeld ?_
              refine takeU (i := 14) (some 54) (.bool false) (by kernel_rfl) (by kernel_rfl) (by kernel_rfl) (by kernel_rfl) (by kernel_rfl) (fun _ => by kernel_rfl) (fun _ _ _ h => h) hHeld ?_
              refine skipU (i := 15) (some 55) (by kernel_rfl) (by kernel_rfl) (by kernel_rfl) (by kernel_rfl) (by kernel_rfl) (fun _ _ _ h => h) hHeld ?_
              refine skipU (i := 16) (some 56) (by kernel_rfl) (by kernel_rfl) (by kernel_rfl) (by kernel_rfl) (by kernel_rfl) (fun _ _ _ h => h) hHeld ?_
              refine skipU (i := 17) (some 57) (by kernel_rfl) (by kernel_rfl) (by kernel_rfl) (by kernel_rfl) (by kernel_rfl) (fun _ _ _ h => h) hHeld ?_
              refine skipU (i := 18) (some 58) (by kernel_rfl) (by kernel_rfl) (by kernel_rfl) (by kernel_rfl) (by kernel_rfl) (fun _ _ _ h => h) hHeld ?_
              refine skipU (i := 19) (some 59) (by kernel_rfl) (by kernel_rfl) (by kernel_rfl) (by kernel_rfl) (by kernel_rfl) (fun _ _ _ h => h) hHeld ?_
              refine skipU (i := 20) (some 60) (by kernel_rfl) (by kernel_rfl) (by kernel_rfl) (by kernel_rfl) (by kernel_rfl) (fun _ _ _ h => h) hHeld ?_
              refine takeU (i := 21) (some 61) (.bool false) (by kernel_rfl) (by kernel_rfl) (by kernel_rfl) (by kernel_rfl) (by kernel_rfl) (fun _ => by kernel_rfl) (fun _ _ _ h => h) hHeld ?_
              try simp only [Act.put, List.setIfInBounds_toArray, List.set_cons_zero, List.set_cons_succ]
              refine wpAnyH_ready (rs := [22]) (by kernel_rfl) (by simp) ?_
              refine AllReadyH.cons (o := { dst := some 62, op := Go.Op.call { callee := Go.Callee.value (Go.Operand.func 10), args := #[Go.Operand.tmp 40, Go.Operand.const (Go.Value.bool true), Go.Operand.const (Go.Value.bool false), Go.Operand.tmp 61], argTypes := #[28, 4, 4, 4] }, type := 31, pos := "law.go:251", after := #[{ on := 0, ground := Go.Ground.data }, { on := 21, ground := Go.Ground.data }, { on := 14, ground := Go.Ground.chain }], guard := none }) rfl (fun K hK => ?_) AllReadyH.nil
              go_simp
              go_at_call 10
              refine (HW2.out _ _ (by first | rfl | (rw [HRr.out] <;> first | rfl | (simp only [d1, d2]; rfl) | (simp only [d1]; rfl) | simp [d1, d2] | simp [d1] | simp)) (hbw.trans (hHeld.mono hbw.size))).mono ?_
              rintro e w229 ⟨rfl, hb229⟩
              refine hK.out _ _ (hHeld.trans (hb229.mono hHeld.size)) (fun hHeld => ?_)
              clear hK K hb229
              try simp only [Act.put, List.setIfInBounds_toArray, List.set_cons_zero, List.set_cons_succ]
              refine takeU (i := 23) (some 8) (.int .i64 E2) (by kernel_rfl) (by kernel_rfl) (by kernel_rfl) (by kernel_rfl) (by kernel_rfl) (fun _ => by kernel_rfl) (fun _ _ _ h => h) hHeld ?_
              refine wpAnyH_done (by kernel_rfl) ?_ _
              try simp only [Act.put, List.setIfInBounds_toArray, List.set_cons_zero, List.set_cons_succ]
              go_wp2_with fail
              go_meet
              exact ⟨hHeld, rfl⟩
            · refine takeU (i := 8) (some 48) (.bool true) (by kernel_rfl) (by kernel_rfl) (by kernel_rfl) (by kernel_rfl) (by kernel_rfl) (fun _ => by kernel_rfl) (fun _ _ _ h => h) hHeld ?_
              refine takeU (i := 9) (some 49) (.bool true) (by kernel_rfl) (by kernel_rfl) (by kernel_rfl) (by kernel_rfl) (by kernel_rfl) (fun _ => by kernel_rfl) (fun _ _ _ h => h) hHeld ?_
              refine takeU (i := 10) (some 50) (.pointer (some ⟨w.heap.size, 7, none⟩)) (by kernel_rfl) (by kernel_rfl) (by kernel_rfl) (by kernel_rfl) (by kernel_rfl) (fun _ => by kernel_rfl) (fun _ _ _ h => h) hHeld ?_
              refine wpAnyH_take (i := 11) (oi := { dst := some 51, op := Go.Op.load 3 (Go.Operand.tmp 50), type := 3, pos := "law.go:251", after := #[{ on := 10, ground := Go.Ground.data }, { on := 9, ground := Go.Ground.guard }], guard := some (9, true) }) (v := .int .i64 q3) rfl (by kernel_rfl) (by kernel_rfl) (by kernel_rfl) (fun _ _ _ h => h) (.inl ⟨by kernel_rfl, fun w9 h9 => by
                clear hHeld
                have d0 := (h9.cell (p := ⟨w.heap.size, 7, none⟩) hzz).trans p7
                clear h9
                go_simp⟩) hHeld ?_
              refine wpAnyH_take (i := 12) (oi := { dst := some 52, op := Go.Op.binOp Go.BinOp.geq 3 (Go.Operand.tmp 51) (Go.Operand.const (Go.Value.int Go.IntKind.i64 0)) 3, type := 4, pos := "law.go:251", after := #[{ on := 11, ground := Go.Ground.data }, { on := 9, ground := Go.Ground.guard }], guard := some (9, true) }) (v := .bool true) rfl (by kernel_rfl) (by kernel_rfl) (by kernel_rfl) (fun _ _ _ h => h) (.inl ⟨by kernel_rfl, fun w9 h9 => by
                clear hHeld h9
                go_simp⟩) hHeld ?_
              refine takeU (i := 13) (some 53) (.bool true) (by kernel_rfl) (by kernel_rfl) (by kernel_rfl) (by kernel_rfl) (by kernel_rfl) (fun _ => by kernel_rfl) (fun _ _ _ h => h) hHeld ?_
              refine takeU (i := 14) (some 54) (.bool true) (by kernel_rfl) (by kernel_rfl) (by kernel_rfl) (by kernel_rfl) (by kernel_rfl) (fun _ => by kernel_rfl) (fun _ _ _ h => h) hHeld ?_
              refine takeU (i := 15) (some 55) (.pointer (some ⟨w.heap.size, 7, none⟩)) (by kernel_rfl) (by kernel_rfl) (by kernel_rfl) (by kernel_rfl) (by kernel_rfl) (fun _ => by kernel_rfl) (fun _ _ _ h => h) hHeld ?_
              refine wpAnyH_take (i := 16) (oi := { dst := some 56, op := Go.Op.load 3 (Go.Operand.tmp 55), type := 3, pos := "law.go:251", after := #[{ on := 15, ground := Go.Ground.data }, { on := 14, ground := Go.Ground.guard }], guard := some (14, true) }) (v := .int .i64 q3) rfl (by kernel_rfl) (by kernel_rfl) (by kernel_rfl) (fun _ _ _ h => h) (.inl ⟨by kernel_rfl, fun w9 h9 => by
                clear hHeld
                have d0 := (h9.cell (p := ⟨w.heap.size, 7, none⟩) hzz).trans p7
                clear h9
                go_simp⟩) hHeld ?_
              refine takeU (i := 17) (some 57) (.pointer (some ⟨w.heap.size, 0, none⟩)) (by kernel_rfl) (by kernel_rfl) (by kernel_rfl) (by kernel_rfl) (by kernel_rfl) (fun _ => by kernel_rfl) (fun _ _ _ h => h) hHeld ?_
              refine takeU (i := 18) (some 58) (.pointer (some ⟨w.heap.size, 0, none⟩)) (by kernel_rfl) (by kernel_rfl) (by kernel_rfl) (by kernel_rfl) (by kernel_rfl) (fun _ => by kernel_rfl) (fun _ _ _ h => h) hHeld ?_
              refine wpAnyH_take (i := 19) (oi := { dst := some 59, op := Go.Op.load 3 (Go.Operand.tmp 58), type := 3, pos := "law.go:251", after := #[{ on := 18, ground := Go.Ground.data }, { on := 14, ground := Go.Ground.guard }], guard := some (14, true) }) (v := .int .i64 L) rfl (by kernel_rfl) (by kernel_rfl) (by kernel_rfl) (fun _ _ _ h => h) (.inl ⟨by kernel_rfl, fun w9 h9 => by
                clear hHeld
                have d0 := (h9.cell (p := ⟨w.heap.size, 0, none⟩) hzz).trans p0
                clear h9
                go_simp⟩) hHeld ?_
              refine wpAnyH_take (i := 20) (oi := { dst := some 60, op := Go.Op.binOp Go.BinOp.lss 3 (Go.Operand.tmp 56) (Go.Operand.tmp 59) 3, type := 4, pos := "law.go:251", after := #[{ on := 16, ground := Go.Ground.data }, { on := 19, ground := Go.Ground.data }, { on := 14, ground := Go.Ground.guard }], guard := some (14, true) }) (v := .bool false) rfl (by kernel_rfl) (by kernel_rfl) (by kernel_rfl) (fun _ _ _ h => h) (.inl ⟨by kernel_rfl, fun w9 h9 => by
                clear hHeld h9
                go_simp⟩) hHeld ?_
              refine takeU (i := 21) (some 61) (.bool false) (by kernel_rfl) (by kernel_rfl) (by kernel_rfl) (by kernel_rfl) (by kernel_rfl) (fun _ => by kernel_rfl) (fun _ _ _ h => h) hHeld ?_
              try simp only [Act.put, List.setIfInBounds_toArray, List.set_cons_zero, List.set_cons_succ]
              refine wpAnyH_ready (rs := [22]) (by kernel_rfl) (by simp) ?_
              refine AllReadyH.cons (o := { dst := some 62, op := Go.Op.call { callee := Go.Callee.value (Go.Operand.func 10), args := #[Go.Operand.tmp 40, Go.Operand.const (Go.Value.bool true), Go.Operand.const (Go.Value.bool false), Go.Operand.tmp 61], argTypes := #[28, 4, 4, 4] }, type := 31, pos := "law.go:251", after := #[{ on := 0, ground := Go.Ground.data }, { on := 21, ground := Go.Ground.data }, { on := 14, ground := Go.Ground.chain }], guard := none }) rfl (fun K hK => ?_) AllReadyH.nil
              go_simp
              go_at_call 10
              refine (HW2.out _ _ (by first | rfl | (rw [HRr.out] <;> first | rfl | (simp only [d1, d2]; rfl) | (simp only [d1]; rfl) | simp [d1, d2] | simp [d1] | simp)) (hbw.trans (hHeld.mono hbw.size))).mono ?_
              rintro e w229 ⟨rfl, hb229⟩
              refine hK.out _ _ (hHeld.trans (hb229.mono hHeld.size)) (fun hHeld => ?_)
              clear hK K hb229
              try simp only [Act.put, List.setIfInBounds_toArray, List.set_cons_zero, List.set_cons_succ]
              refine takeU (i := 23) (some 8) (.int .i64 E2) (by kernel_rfl) (by kernel_rfl) (by kernel_rfl) (by kernel_rfl) (by kernel_rfl) (fun _ => by kernel_rfl) (fun _ _ _ h => h) hHeld ?_
              refine wpAnyH_done (by kernel_rfl) ?_ _
              try simp only [Act.put, List.setIfInBounds_toArray, List.set_cons_zero, List.set_cons_succ]
              go_wp2_with fail
              go_meet
              exact ⟨hHeld, rfl⟩
      · have d1 : decide (0 ≤ q3) = false := decide_eq_false z1
        have d2 : True := trivial
        go_wp2_with fail
        refine wp_region_held_drew (S := fun w' => Below wY.heap.size wY w') (by kernel_rfl) ((Below.refl _ _).drew) (fun hHeld => ?_)
        refine wpAnyH_take (i := 0) (oi := { dst := some 40, op := Go.Op.load 28 (Go.Operand.tmp 1), type := 28, pos := "law.go:251", after := #[], guard := none }) (v := .agg #[.int .i64 L, .slice a js.length ca, .slice aa l.length cl, .slice ae q.length cq, .int .i64 q0, .int .i64 q1, .int .i64 q2, .int .i64 q3]) rfl (by kernel_rfl) (by kernel_rfl) (by kernel_rfl) (fun _ _ _ h => h) (.inl ⟨by kernel_rfl, fun w9 h9 => by
          clear hHeld
          have d0 := (h9.cell (p := ⟨w.heap.size, 0, none⟩) hzz).trans p0
          have d1 := (h9.cell (p := ⟨w.heap.size, 1, none⟩) hzz).trans p1
          have d2 := (h9.cell (p := ⟨w.heap.size, 2, none⟩) hzz).trans p2
          have d3 := (h9.cell (p := ⟨w.heap.size, 3, none⟩) hzz).trans p3
          have d4 := (h9.cell (p := ⟨w.heap.size, 4, none⟩) hzz).trans p4
          have d5 := (h9.cell (p := ⟨w.heap.size, 5, none⟩) hzz).trans p5
          have d6 := (h9.cell (p := ⟨w.heap.size, 6, none⟩) hzz).trans p6
          have d7 := (h9.cell (p := ⟨w.heap.size, 7, none⟩) hzz).trans p7
          clear h9
          go_simp⟩) hHeld ?_
        refine takeU (i := 1) (some 41) (.pointer (some ⟨w.heap.size, 5, none⟩)) (by kernel_rfl) (by kernel_rfl) (by kernel_rfl) (by kernel_rfl) (by kernel_rfl) (fun _ => by kernel_rfl) (fun _ _ _ h => h) hHeld ?_
        refine wpAnyH_take (i := 2) (oi := { dst := some 42, op := Go.Op.load 3 (Go.Operand.tmp 41), type := 3, pos := "law.go:251", after := #[{ on := 1, ground := Go.Ground.data }], guard := none }) (v := .int .i64 q1) rfl (by kernel_rfl) (by kernel_rfl) (by kernel_rfl) (fun _ _ _ h => h) (.inl ⟨by kernel_rfl, fun w9 h9 => by
          clear hHeld
          have d0 := (h9.cell (p := ⟨w.heap.size, 5, none⟩) hzz).trans p5
          clear h9
          go_simp⟩) hHeld ?_
        try simp only [Act.put, List.setIfInBounds_toArray, List.set_cons_zero, List.set_cons_succ]
        refine wpAnyH_ready (rs := [3]) (by kernel_rfl) (by simp) ?_
        refine AllReadyH.cons (o := { dst := some 43, op := Go.Op.call { callee := Go.Callee.value (Go.Operand.func 11), args := #[Go.Operand.tmp 42], argTypes := #[3] }, type := 4, pos := "law.go:251", after := #[{ on := 2, ground := Go.Ground.data }], guard := none }) rfl (fun K hK => ?_) AllReadyH.nil
        go_simp
        go_at_call 11
        refine (K1.out _).mono ?_
        rintro e w39 ⟨rfl, rfl⟩
        refine hK.out _ _ hHeld (fun hHeld => ?_)
        clear hK K
        try simp only [Act.put, List.setIfInBounds_toArray, List.set_cons_zero, List.set_cons_succ]
        cases b1b
        · refine takeU (i := 4) (some 44) (.bool false) (by kernel_rfl) (by kernel_rfl) (by kernel_rfl) (by kernel_rfl) (by kernel_rfl) (fun _ => by kernel_rfl) (fun _ _ _ h => h) hHeld ?_
          refine skipU (i := 5) (some 45) (by kernel_rfl) (by kernel_rfl) (by kernel_rfl) (by kernel_rfl) (by kernel_rfl) (fun _ _ _ h => h) hHeld ?_
          refine skipU (i := 6) (some 46) (by kernel_rfl) (by kernel_rfl) (by kernel_rfl) (by kernel_rfl) (by kernel_rfl) (fun _ _ _ h => h) hHeld ?_
          refine skipU (i := 7) (some 47) (by kernel_rfl) (by kernel_rfl) (by kernel_rfl) (by kernel_rfl) (by kernel_rfl) (fun _ _ _ h => h) hHeld ?_
          refine takeU (i := 8) (some 48) (.bool false) (by kernel_rfl) (by kernel_rfl) (by kernel_rfl) (by kernel_rfl) (by kernel_rfl) (fun _ => by kernel_rfl) (fun _ _ _ h => h) hHeld ?_
          refine takeU (i := 9) (some 49) (.bool false) (by kernel_rfl) (by kernel_rfl) (by kernel_rfl) (by kernel_rfl) (by kernel_rfl) (fun _ => by kernel_rfl) (fun _ _ _ h => h) hHeld ?_
          refine skipU (i := 10) (some 50) (by kernel_rfl) (by kernel_rfl) (by kernel_rfl) (by kernel_rfl) (by kernel_rfl) (fun _ _ _ h => h) hHeld ?_
          refine skipU (i := 11) (some 51) (by kernel_rfl) (by kernel_rfl) (by kernel_rfl) (by kernel_rfl) (by kernel_rfl) (fun _ _ _ h => h) hHeld ?_
          refine skipU (i := 12) (some 52) (by kernel_rfl) (by kernel_rfl) (by kernel_rfl) (by kernel_rfl) (by kernel_rfl) (fun _ _ _ h => h) hHeld ?_
          refine takeU (i := 13) (some 53) (.bool false) (by kernel_rfl) (by kernel_rfl) (by kernel_rfl) (by kernel_rfl) (by kernel_rfl) (fun _ => by kernel_rfl) (fun _ _ _ h => h) hHeld ?_
          refine takeU (i := 14) (some 54) (.bool false) (by kernel_rfl) (by kernel_rfl) (by kernel_rfl) (by kernel_rfl) (by kernel_rfl) (fun _ => by kernel_rfl) (fun _ _ _ h => h) hHeld ?_
          refine skipU (i := 15) (some 55) (by kernel_rfl) (by kernel_rfl) (by kernel_rfl) (by kernel_rfl) (by kernel_rfl) (fun _ _ _ h => h) hHeld ?_
          refine skipU (i := 16) (some 56) (by kernel_rfl) (by kernel_rfl) (by kernel_rfl) (by kernel_rfl) (by kernel_rfl) (fun _ _ _ h => h) hHeld ?_
          refine skipU (i := 17) (some 57) (by kernel_rfl) (by kernel_rfl) (by kernel_rfl) (by kernel_rfl) (by kernel_rfl) (fun _ _ _ h => h) hHeld ?_
          refine skipU (i := 18) (some 58) (by kernel_rfl) (by kernel_rfl) (by kernel_rfl) (by kernel_rfl) (by kernel_rfl) (fun _ _ _ h => h) hHeld ?_
          refine skipU (i := 19) (some 59) (by kernel_rfl) (by kernel_rfl) (by kernel_rfl) (by kernel_rfl) (by kernel_rfl) (fun _ _ _ h => h) hHeld ?_
          refine skipU (i := 20) (some 60) (by kernel_rfl) (by kernel_rfl) (by kernel_rfl) (by kernel_rfl) (by kernel_rfl) (fun _ _ _ h => h) hHeld ?_
          refine takeU (i := 21) (some 61) (.bool false) (by kernel_rfl) (by kernel_rfl) (by kernel_rfl) (by kernel_rfl) (by kernel_rfl) (fun _ => by kernel_rfl) (fun _ _ _ h => h) hHeld ?_
          try simp only [Act.put, List.setIfInBounds_toArray, List.set_cons_zero, List.set_cons_succ]
          refine wpAnyH_ready (rs := [22]) (by kernel_rfl) (by simp) ?_
          refine AllReadyH.cons (o := { dst := some 62, op := Go.Op.call { callee := Go.Callee.value (Go.Operand.func 10), args := #[Go.Operand.tmp 40, Go.Operand.const (Go.Value.bool true), Go.Operand.const (Go.Value.bool false), Go.Operand.tmp 61], argTypes := #[28, 4, 4, 4] }, type := 31, pos := "law.go:251", after := #[{ on := 0, ground := Go.Ground.data }, { on := 21, ground := Go.Ground.data }, { on := 14, ground := Go.Ground.chain }], guard := none }) rfl (fun K hK => ?_) AllReadyH.nil
          go_simp
          go_at_call 10
          refine (HW2.out _ _ (by first | rfl | (rw [HRr.out] <;> first | rfl | (simp only [d1, d2]; rfl) | (simp only [d1]; rfl) | simp [d1, d2] | simp [d1] | simp)) (hbw.trans (hHeld.mono hbw.size))).mono ?_
          rintro e w229 ⟨rfl, hb229⟩
          refine hK.out _ _ (hHeld.trans (hb229.mono hHeld.size)) (fun hHeld => ?_)
          clear hK K hb229
          try simp only [Act.put, List.setIfInBounds_toArray, List.set_cons_zero, List.set_cons_succ]
          refine takeU (i := 23) (some 8) (.int .i64 E2) (by kernel_rfl) (by kernel_rfl) (by kernel_rfl) (by kernel_rfl) (by kernel_rfl) (fun _ => by kernel_rfl) (fun _ _ _ h => h) hHeld ?_
          refine wpAnyH_done (by kernel_rfl) ?_ _
          try simp only [Act.put, List.setIfInBounds_toArray, List.set_cons_zero, List.set_cons_succ]
          go_wp2_with fail
          go_meet
          exact ⟨hHeld, rfl⟩
        · refine takeU (i := 4) (some 44) (.bool true) (by kernel_rfl) (by kernel_rfl) (by kernel_rfl) (by kernel_rfl) (by kernel_rfl) (fun _ => by kernel_rfl) (fun _ _ _ h => h) hHeld ?_
          refine takeU (i := 5) (some 45) (.pointer (some ⟨w.heap.size, 6, none⟩)) (by kernel_rfl) (by kernel_rfl) (by kernel_rfl) (by kernel_rfl) (by kernel_rfl) (fun _ => by kernel_rfl) (fun _ _ _ h => h) hHeld ?_
          refine wpAnyH_take (i := 6) (oi := { dst := some 46, op := Go.Op.load 3 (Go.Operand.tmp 45), type := 3, pos := "law.go:251", after := #[{ on := 5, ground := Go.Ground.data }, { on := 4, ground := Go.Ground.guard }], guard := some (4, true) }) (v := .int .i64 q2) rfl (by kernel_rfl) (by kernel_rfl) (by kernel_rfl) (fun _ _ _ h => h) (.inl ⟨by kernel_rfl, fun w9 h9 => by
            clear hHeld
            have d0 := (h9.cell (p := ⟨w.heap.size, 6, none⟩) hzz).trans p6
            clear h9
            go_simp⟩) hHeld ?_
          try simp only [Act.put, List.setIfInBounds_toArray, List.set_cons_zero, List.set_cons_succ]
          refine wpAnyH_ready (rs := [7]) (by kernel_rfl) (by simp) ?_
          refine AllReadyH.cons (o := { dst := some 47, op := Go.Op.call { callee := Go.Callee.value (Go.Operand.func 12), args := #[Go.Operand.tmp 46], argTypes := #[3] }, type := 4, pos := "law.go:251", after := #[{ on := 6, ground := Go.Ground.data }, { on := 4, ground := Go.Ground.chain }, { on := 4, ground := Go.Ground.guard }], guard := some (4, true) }) rfl (fun K hK => ?_) AllReadyH.nil
          go_simp
          go_at_call 12
          refine (K2.out _).mono ?_
          rintro e w79 ⟨rfl, rfl⟩
          refine hK.out _ _ hHeld (fun hHeld => ?_)
          clear hK K
          try simp only [Act.put, List.setIfInBounds_toArray, List.set_cons_zero, List.set_cons_succ]
          cases b2b
          · refine takeU (i := 8) (some 48) (.bool false) (by kernel_rfl) (by kernel_rfl) (by kernel_rfl) (by kernel_rfl) (by kernel_rfl) (fun _ => by kernel_rfl) (fun _ _ _ h => h) hHeld ?_
            refine takeU (i := 9) (some 49) (.bool false) (by kernel_rfl) (by kernel_rfl) (by kernel_rfl) (by kernel_rfl) (by kernel_rfl) (fun _ => by kernel_rfl) (fun _ _ _ h => h) hHeld ?_
            refine skipU (i := 10) (some 50) (by kernel_rfl) (by kernel_rfl) (by kernel_rfl) (by kernel_rfl) (by kernel_rfl) (fun _ _ _ h => h) hHeld ?_
            refine skipU (i := 11) (some 51) (by kernel_rfl) (by kernel_rfl) (by kernel_rfl) (by kernel_rfl) (by kernel_rfl) (fun _ _ _ h => h) hHeld ?_
            refine skipU (i := 12) (some 52) (by kernel_rfl) (by kernel_rfl) (by kernel_rfl) (by kernel_rfl) (by kernel_rfl) (fun _ _ _ h => h) hHeld ?_
            refine takeU (i := 13) (some 53) (.bool false) (by kernel_rfl) (by kernel_rfl) (by kernel_rfl) (by kernel_rfl) (by kernel_rfl) (fun _ => by kernel_rfl) (fun _ _ _ h => h) hHeld ?_
            refine takeU (i := 14) (some 54) (.bool false) (by kernel_rfl) (by kernel_rfl) (by kernel_rfl) (by kernel_rfl) (by kernel_rfl) (fun _ => by kernel_rfl) (fun _ _ _ h => h) hHeld ?_
            refine skipU (i := 15) (some 55) (by kernel_rfl) (by kernel_rfl) (by kernel_rfl) (by kernel_rfl) (by kernel_rfl) (fun _ _ _ h => h) hHeld ?_
            refine skipU (i := 16) (some 56) (by kernel_rfl) (by kernel_rfl) (by kernel_rfl) (by kernel_rfl) (by kernel_rfl) (fun _ _ _ h => h) hHeld ?_
            refine skipU (i := 17) (some 57) (by kernel_rfl) (by kernel_rfl) (by kernel_rfl) (by kernel_rfl) (by kernel_rfl) (fun _ _ _ h => h) hHeld ?_
            refine skipU (i := 18) (some 58) (by kernel_rfl) (by kernel_rfl) (by kernel_rfl) (by kernel_rfl) (by kernel_rfl) (fun _ _ _ h => h) hHeld ?_
            refine skipU (i := 19) (some 59) (by kernel_rfl) (by kernel_rfl) (by kernel_rfl) (by kernel_rfl) (by kernel_rfl) (fun _ _ _ h => h) hHeld ?_
            refine skipU (i := 20) (some 60) (by kernel_rfl) (by kernel_rfl) (by kernel_rfl) (by kernel_rfl) (by kernel_rfl) (fun _ _ _ h => h) hHeld ?_
            refine takeU (i := 21) (some 61) (.bool false) (by kernel_rfl) (by kernel_rfl) (by kernel_rfl) (by kernel_rfl) (by kernel_rfl) (fun _ => by kernel_rfl) (fun _ _ _ h => h) hHeld ?_
            try simp only [Act.put, List.setIfInBounds_toArray, List.set_cons_zero, List.set_cons_succ]
            refine wpAnyH_ready (rs := [22]) (by kernel_rfl) (by simp) ?_
            refine AllReadyH.cons (o := { dst := some 62, op := Go.Op.call { callee := Go.Callee.value (Go.Operand.func 10), args := #[Go.Operand.tmp 40, Go.Operand.const (Go.Value.bool true), Go.Operand.const (Go.Value.bool false), Go.Operand.tmp 61], argTypes := #[28, 4, 4, 4] }, type := 31, pos := "law.go:251", after := #[{ on := 0, ground := Go.Ground.data }, { on := 21, ground := Go.Ground.data }, { on := 14, ground := Go.Ground.chain }], guard := none }) rfl (fun K hK => ?_) AllReadyH.nil
            go_simp
            go_at_call 10
            refine (HW2.out _ _ (by first | rfl | (rw [HRr.out] <;> first | rfl | (simp only [d1, d2]; rfl) | (simp only [d1]; rfl) | simp [d1, d2] | simp [d1] | simp)) (hbw.trans (hHeld.mono hbw.size))).mono ?_
            rintro e w229 ⟨rfl, hb229⟩
            refine hK.out _ _ (hHeld.trans (hb229.mono hHeld.size)) (fun hHeld => ?_)
            clear hK K hb229
            try simp only [Act.put, List.setIfInBounds_toArray, List.set_cons_zero, List.set_cons_succ]
            refine takeU (i := 23) (some 8) (.int .i64 E2) (by kernel_rfl) (by kernel_rfl) (by kernel_rfl) (by kernel_rfl) (by kernel_rfl) (fun _ => by kernel_rfl) (fun _ _ _ h => h) hHeld ?_
            refine wpAnyH_done (by kernel_rfl) ?_ _
            try simp only [Act.put, List.setIfInBounds_toArray, List.set_cons_zero, List.set_cons_succ]
            go_wp2_with fail
            go_meet
            exact ⟨hHeld, rfl⟩
          · refine takeU (i := 8) (some 48) (.bool true) (by kernel_rfl) (by kernel_rfl) (by kernel_rfl) (by kernel_rfl) (by kernel_rfl) (fun _ => by kernel_rfl) (fun _ _ _ h => h) hHeld ?_
            refine takeU (i := 9) (some 49) (.bool true) (by kernel_rfl) (by kernel_rfl) (by kernel_rfl) (by kernel_rfl) (by kernel_rfl) (fun _ => by kernel_rfl) (fun _ _ _ h => h) hHeld ?_
            refine takeU (i := 10) (some 50) (.pointer (some ⟨w.heap.size, 7, none⟩)) (by kernel_rfl) (by kernel_rfl) (by kernel_rfl) (by kernel_rfl) (by kernel_rfl) (fun _ => by kernel_rfl) (fun _ _ _ h => h) hHeld ?_
            refine wpAnyH_take (i := 11) (oi := { dst := some 51, op := Go.Op.load 3 (Go.Operand.tmp 50), type := 3, pos := "law.go:251", after := #[{ on := 10, ground := Go.Ground.data }, { on := 9, ground := Go.Ground.guard }], guard := some (9, true) }) (v := .int .i64 q3) rfl (by kernel_rfl) (by kernel_rfl) (by kernel_rfl) (fun _ _ _ h => h) (.inl ⟨by kernel_rfl, fun w9 h9 => by
              clear hHeld
              have d0 := (h9.cell (p := ⟨w.heap.size, 7, none⟩) hzz).trans p7
              clear h9
              go_simp⟩) hHeld ?_
            refine wpAnyH_take (i := 12) (oi := { dst := some 52, op := Go.Op.binOp Go.BinOp.geq 3 (Go.Operand.tmp 51) (Go.Operand.const (Go.Value.int Go.IntKind.i64 0)) 3, type := 4, pos := "law.go:251", after := #[{ on := 11, ground := Go.Ground.data }, { on := 9, ground := Go.Ground.guard }], guard := some (9, true) }) (v := .bool false) rfl (by kernel_rfl) (by kernel_rfl) (by kernel_rfl) (fun _ _ _ h => h) (.inl ⟨by kernel_rfl, fun w9 h9 => by
              clear hHeld h9
              go_simp⟩) hHeld ?_
            refine takeU (i := 13) (some 53) (.bool false) (by kernel_rfl) (by kernel_rfl) (by kernel_rfl) (by kernel_rfl) (by kernel_rfl) (fun _ => by kernel_rfl) (fun _ _ _ h => h) hHeld ?_
            refine takeU (i := 14) (some 54) (.bool false) (by kernel_rfl) (by kernel_rfl) (by kernel_rfl) (by kernel_rfl) (by kernel_rfl) (fun _ => by kernel_rfl) (fun _ _ _ h => h) hHeld ?_
            refine skipU (i := 15) (some 55) (by kernel_rfl) (by kernel_rfl) (by kernel_rfl) (by kernel_rfl) (by kernel_rfl) (fun _ _ _ h => h) hHeld ?_
            refine skipU (i := 16) (some 56) (by kernel_rfl) (by kernel_rfl) (by kernel_rfl) (by kernel_rfl) (by kernel_rfl) (fun _ _ _ h => h) hHeld ?_
            refine skipU (i := 17) (some 57) (by kernel_rfl) (by kernel_rfl) (by kernel_rfl) (by kernel_rfl) (by kernel_rfl) (fun _ _ _ h => h) hHeld ?_
            refine skipU (i := 18) (some 58) (by kernel_rfl) (by kernel_rfl) (by kernel_rfl) (by kernel_rfl) (by kernel_rfl) (fun _ _ _ h => h) hHeld ?_
            refine skipU (i := 19) (some 59) (by kernel_rfl) (by kernel_rfl) (by kernel_rfl) (by kernel_rfl) (by kernel_rfl) (fun _ _ _ h => h) hHeld ?_
            refine skipU (i := 20) (some 60) (by kernel_rfl) (by kernel_rfl) (by kernel_rfl) (by kernel_rfl) (by kernel_rfl) (fun _ _ _ h => h) hHeld ?_
            refine takeU (i := 21) (some 61) (.bool false) (by kernel_rfl) (by kernel_rfl) (by kernel_rfl) (by kernel_rfl) (by kernel_rfl) (fun _ => by kernel_rfl) (fun _ _ _ h => h) hHeld ?_
            try simp only [Act.put, List.setIfInBounds_toArray, List.set_cons_zero, List.set_cons_succ]
            refine wpAnyH_ready (rs := [22]) (by kernel_rfl) (by simp) ?_
            refine AllReadyH.cons (o := { dst := some 62, op := Go.Op.call { callee := Go.Callee.value (Go.Operand.func 10), args := #[Go.Operand.tmp 40, Go.Operand.const (Go.Value.bool true), Go.Operand.const (Go.Value.bool false), Go.Operand.tmp 61], argTypes := #[28, 4, 4, 4] }, type := 31, pos := "law.go:251", after := #[{ on := 0, ground := Go.Ground.data }, { on := 21, ground := Go.Ground.data }, { on := 14, ground := Go.Ground.chain }], guard := none }) rfl (fun K hK => ?_) AllReadyH.nil
            go_simp
            go_at_call 10
            refine (HW2.out _ _ (by first | rfl | (rw [HRr.out] <;> first | rfl | (simp only [d1, d2]; rfl) | (simp only [d1]; rfl) | simp [d1, d2] | simp [d1] | simp)) (hbw.trans (hHeld.mono hbw.size))).mono ?_
            rintro e w229 ⟨rfl, hb229⟩
            refine hK.out _ _ (hHeld.trans (hb229.mono hHeld.size)) (fun hHeld => ?_)
            clear hK K hb229
            try simp only [Act.put, List.setIfInBounds_toArray, List.set_cons_zero, List.set_cons_succ]
            refine takeU (i := 23) (some 8) (.int .i64 E2) (by kernel_rfl) (by kernel_rfl) (by kernel_rfl) (by kernel_rfl) (by kernel_rfl) (fun _ => by kernel_rfl) (fun _ _ _ h => h) hHeld ?_
            refine wpAnyH_done (by kernel_rfl) ?_ _
            try simp only [Act.put, List.setIfInBounds_toArray, List.set_cons_zero, List.set_cons_succ]
            go_wp2_with fail
            go_meet
            exact ⟨hHeld, rfl⟩
    case rest =>
      obtain ⟨hb9, rfl⟩ := hcut
      clear K1 K2 HRr HW2
      obtain ⟨wZ, rfl⟩ : ∃ wZ : World, wZ = wc := ⟨_, rfl⟩
      replace hbw := hbw.trans (hb9.mono hbw.size)
      replace p0 := cell_below p0 hb9
      replace p1 := cell_below p1 hb9
      replace p2 := cell_below p2 hb9
      replace p3 := cell_below p3 hb9
      replace p4 := cell_below p4 hb9
      replace p5 := cell_below p5 hb9
      replace p6 := cell_below p6 hb9
      replace p7 := cell_below p7 hb9
      replace HT1 := Lib.hid (HT1.out.below hb9)
      replace HT2 := Lib.hid (HT2.out.below hb9)
      clear hb9 hzz
      by_cases hE1 : E1 = 0
      · by_cases hE2 : E2 = 0
        · skip
          obtain rfl : V1 = VH := by rw [← HV1.out, if_pos hE1]
          subst hE1
          obtain rfl : V2 = VM := by rw [← HV2.out, if_pos hE2]
          subst hE2
          clear HV1 HV2
          obtain ⟨hvl, hv64⟩ := HI64.out (by trivial)
          have HV64 := Lib.hid hv64
          clear hv64
          go_wp2_with (first | (go_at_call 13; refine (HE1.out (by trivial) _ hbw).mono ?_; rintro e w9 ⟨b3, c3, rfl, ho3, hb9⟩; have HT3 := Lib.hid (ints_own ho3 (by omega) HV64.out); clear ho3; replace hbw := hbw.trans (hb9.mono hbw.size); replace p0 := cell_below p0 hb9; replace p1 := cell_below p1 hb9; replace p2 := cell_below p2 hb9; replace p3 := cell_below p3 hb9; replace p4 := cell_below p4 hb9; replace p5 := cell_below p5 hb9; replace p6 := cell_below p6 hb9; replace p7 := cell_below p7 hb9; replace HT1 := Lib.hid (HT1.out.below hb9); replace HT2 := Lib.hid (HT2.out.below hb9); clear hb9) | (go_at_call 14; refine (HE2.out (by trivial) _ hbw).mono ?_; rintro e w9 ⟨b4, c4, rfl, hT4, hb9⟩; have HT4 := Lib.hid hT4; clear hT4; replace hbw := hbw.trans (hb9.mono hbw.size); replace p0 := cell_below p0 hb9; replace p1 := cell_below p1 hb9; replace p2 := cell_below p2 hb9; replace p3 := cell_below p3 hb9; replace p4 := cell_below p4 hb9; replace p5 := cell_below p5 hb9; replace p6 := cell_below p6 hb9; replace p7 := cell_below p7 hb9; replace HT1 := Lib.hid (HT1.out.below hb9); replace HT2 := Lib.hid (HT2.out.below hb9); replace HT3 := Lib.hid (HT3.out.below hb9); clear hb9) | (go_at_call 15; (with_reducible refine Calls.mono (sameInts_r _ _ _ _ _ _ HT1.out HT3.out) ?_); rintro e w9 ⟨rfl, hb9⟩; replace hbw := hbw.trans (hb9.mono hbw.size); replace HT1 := Lib.hid (HT1.out.below hb9); replace HT2 := Lib.hid (HT2.out.below hb9); replace HT3 := Lib.hid (HT3.out.below hb9); replace HT4 := Lib.hid (HT4.out.below hb9); clear hb9) | (go_at_call 16; (with_reducible refine Calls.mono (sameTold_r _ _ _ _ _ _ HT2.out HT4.out) ?_); rintro e w9 ⟨rfl, hb9⟩; replace hbw := hbw.trans (hb9.mono hbw.size); replace HT1 := Lib.hid (HT1.out.below hb9); replace HT2 := Lib.hid (HT2.out.below hb9); replace HT3 := Lib.hid (HT3.out.below hb9); replace HT4 := Lib.hid (HT4.out.below hb9); clear hb9) | (go_at_call 7; refine (first_any _).mono ?_; rintro e w9 ⟨rfl, hb9⟩))
          go_ret
          exact ⟨rfl, hbw.trans (hb9.mono hbw.size)⟩
        · skip
          obtain rfl : V1 = VH := by rw [← HV1.out, if_pos hE1]
          subst hE1
          obtain rfl : V2 = [] := by rw [← HV2.out, if_neg hE2]
          have d2 : (E2 == 0) = false := beq_false_of_ne hE2
          have n2 : (E2 != E2) = false := by simp
          clear HV1 HV2
          obtain ⟨hvl, hv64⟩ := HI64.out (by trivial)
          have HV64 := Lib.hid hv64
          clear hv64
          go_wp2_with (first | (go_at_call 13; refine (HE1.out (by trivial) _ hbw).mono ?_; rintro e w9 ⟨b3, c3, rfl, ho3, hb9⟩; have HT3 := Lib.hid (ints_own ho3 (by omega) HV64.out); clear ho3; replace hbw := hbw.trans (hb9.mono hbw.size); replace p0 := cell_below p0 hb9; replace p1 := cell_below p1 hb9; replace p2 := cell_below p2 hb9; replace p3 := cell_below p3 hb9; replace p4 := cell_below p4 hb9; replace p5 := cell_below p5 hb9; replace p6 := cell_below p6 hb9; replace p7 := cell_below p7 hb9; replace HT1 := Lib.hid (HT1.out.below hb9); replace HT2 := Lib.hid (HT2.out.below hb9); clear hb9) | (go_at_call 15; (with_reducible refine Calls.mono (sameInts_r _ _ _ _ _ _ HT1.out HT3.out) ?_); rintro e w9 ⟨rfl, hb9⟩; replace hbw := hbw.trans (hb9.mono hbw.size); replace HT1 := Lib.hid (HT1.out.below hb9); replace HT2 := Lib.hid (HT2.out.below hb9); replace HT3 := Lib.hid (HT3.out.below hb9); clear hb9) | (go_at_call 16; (with_reducible refine Calls.mono (told0_r _ _ _ HT2.out) ?_); rintro e w9 ⟨rfl, hb9⟩; replace hbw := hbw.trans (hb9.mono hbw.size); replace HT1 := Lib.hid (HT1.out.below hb9); replace HT2 := Lib.hid (HT2.out.below hb9); replace HT3 := Lib.hid (HT3.out.below hb9); clear hb9) | (go_at_call 7; refine (first_any _).mono ?_; rintro e w9 ⟨rfl, hb9⟩))
          go_ret
          exact ⟨rfl, hbw.trans (hb9.mono hbw.size)⟩
      · by_cases hE2 : E2 = 0
        · skip
          obtain rfl : V1 = [] := by rw [← HV1.out, if_neg hE1]
          have d1 : (E1 == 0) = false := beq_false_of_ne hE1
          have n1 : (E1 != E1) = false := by simp
          obtain rfl : V2 = VM := by rw [← HV2.out, if_pos hE2]
          subst hE2
          clear HV1 HV2
          go_wp2_with (first | (go_at_call 14; refine (HE2.out (by trivial) _ hbw).mono ?_; rintro e w9 ⟨b4, c4, rfl, hT4, hb9⟩; have HT4 := Lib.hid hT4; clear hT4; replace hbw := hbw.trans (hb9.mono hbw.size); replace p0 := cell_below p0 hb9; replace p1 := cell_below p1 hb9; replace p2 := cell_below p2 hb9; replace p3 := cell_below p3 hb9; replace p4 := cell_below p4 hb9; replace p5 := cell_below p5 hb9; replace p6 := cell_below p6 hb9; replace p7 := cell_below p7 hb9; replace HT1 := Lib.hid (HT1.out.below hb9); replace HT2 := Lib.hid (HT2.out.below hb9); clear hb9) | (go_at_call 15; (with_reducible refine Calls.mono (ints0_r _ _ _ HT1.out) ?_); rintro e w9 ⟨rfl, hb9⟩; replace hbw := hbw.trans (hb9.mono hbw.size); replace HT1 := Lib.hid (HT1.out.below hb9); replace HT2 := Lib.hid (HT2.out.below hb9); replace HT4 := Lib.hid (HT4.out.below hb9); clear hb9) | (go_at_call 16; (with_reducible refine Calls.mono (sameTold_r _ _ _ _ _ _ HT2.out HT4.out) ?_); rintro e w9 ⟨rfl, hb9⟩; replace hbw := hbw.trans (hb9.mono hbw.size); replace HT1 := Lib.hid (HT1.out.below hb9); replace HT2 := Lib.hid (HT2.out.below hb9); replace HT4 := Lib.hid (HT4.out.below hb9); clear hb9) | (go_at_call 7; refine (first_any _).mono ?_; rintro e w9 ⟨rfl, hb9⟩))
          go_ret
          exact ⟨rfl, hbw.trans (hb9.mono hbw.size)⟩
        · skip
          obtain rfl : V1 = [] := by rw [← HV1.out, if_neg hE1]
          have d1 : (E1 == 0) = false := beq_false_of_ne hE1
          have n1 : (E1 != E1) = false := by simp
          obtain rfl : V2 = [] := by rw [← HV2.out, if_neg hE2]
          have d2 : (E2 == 0) = false := beq_false_of_ne hE2
          have n2 : (E2 != E2) = false := by simp
          clear HV1 HV2
          go_wp2_with (first | (go_at_call 15; (with_reducible refine Calls.mono (ints0_r _ _ _ HT1.out) ?_); rintro e w9 ⟨rfl, hb9⟩; replace hbw := hbw.trans (hb9.mono hbw.size); replace HT1 := Lib.hid (HT1.out.below hb9); replace HT2 := Lib.hid (HT2.out.below hb9); clear hb9) | (go_at_call 16; (with_reducible refine Calls.mono (told0_r _ _ _ HT2.out) ?_); rintro e w9 ⟨rfl, hb9⟩; replace hbw := hbw.trans (hb9.mono hbw.size); replace HT1 := Lib.hid (HT1.out.below hb9); replace HT2 := Lib.hid (HT2.out.below hb9); clear hb9) | (go_at_call 7; refine (first_any _).mono ?_; rintro e w9 ⟨rfl, hb9⟩))
          go_ret
          exact ⟨rfl, hbw.trans (hb9.mono hbw.size)⟩
end Go.Proofs.YtjoffnbpaebgjaaGreat

namespace Go.Proofs.YtjoffnbpaebgjaaGreat.ruleHistories
set_option linter.unusedVariables false
set_option linter.unusedSimpArgs false
open Go.ChangeShapes Go.WideShapes Go.ChangeAt Go.RowKit
open Go.ChangeMaps (open_string shut_string)

theorem own : ownKnob Tryz.prog.godebug = none := by kernel_rfl

set_option maxRecDepth 100000 in
theorem contract (H : Type) (enc : TypeId × Value → H) (W : World) (base : Nat) (args : Array Value) (ds gs : List (DataW H)) (before : List MemPlace)
    (hval : ∀ (j : Nat) t v, Tryz.f3.params[j]? = some t → args[j]? = some v → Value.okWide Tryz.prog W .any base t v)
    (hW : DataW.Whole enc Tryz.prog Tryz.f3.params.toList Rows.ruleHistoriesSpec.vars false W args.toList ds gs before) (hL : laidMetH Tryz.prog Rows.ruleHistoriesRow.laid W) (hsh : W.ShapedOpen Tryz.prog) :
    Calls Tryz.prog 3 args W fun e W' => ∃ v, e = .returned v ∧ Rows.ruleHistoriesSpec.post enc Tryz.prog Tryz.f3 false true false false W args v W' := by
  have hW' := hW
  obtain ⟨p, q, hA0, hV, rfl, hfz, hnd⟩ := hW
  have hA : DataW.TrodAll enc Tryz.prog W 0 (fun _ => true) true Tryz.f3.params.toList args.toList ds p := hA0
  rw [Tryz.params3] at hA hval
  obtain ⟨v0, d0, rfl, rfl, h0⟩ := trodAll_one hA
  obtain ⟨rfl, rfl⟩ := trodVars_none hV
  obtain ⟨L, a, js, ca, aa, l, cl, ae, q, cq, q0, q1, q2, q3, rfl, hI, hA2, hE, bL, b0, b1, b2, b3⟩ := open_ask (hval 0 28 v0 rfl rfl) h0
  clear hA0
  simp only [List.append_nil] at hW'
  refine (ruleHistories_any L a js ca aa l cl ae q cq q0 q1 q2 q3 W hI hA2 hE).mono fun e W' ⟨he, hg⟩ => ?_
  subst he
  exact ⟨_, rfl, ⟨_, _, _, [], p, [], hW', trodAll_mk1 (shut_bool Tryz.underlying4 _), trodAll_mk1 (Below.trod (by kernel_rfl) (by kernel_rfl) (of_decide_eq_true (by kernel_rfl)) h0 hg (fun x hx => hW'.lt x (by first | exact hx | (simpa using hx) | (simp; first | exact Or.inl hx | exact Or.inr hx | exact Or.inr (Or.inl hx) | exact Or.inr (Or.inr hx))))), rfl, hg.frame _, fun h => by cases h⟩⟩

/-- A start that fits: the listed variables laid, the arguments at their zero values. -/
noncomputable def start (os : Os) : World := World.laidAll Tryz.prog os Rows.ruleHistoriesRow.laid
abbrev zeroArgs : Array Value := #[.agg #[.int .i64 0, .slice none 0 0, .slice none 0 0, .slice none 0 0, .int .i64 0, .int .i64 0, .int .i64 0, .int .i64 0]]
theorem reads (os : Os) {H : Type} (enc : TypeId × Value → H) : ∃ places, DataW.whole enc Tryz.prog ((start os).forCall (fun _ _ => 0) ⟨#[], zeroArgs, []⟩).memory Tryz.f3.params.toList Rows.ruleHistoriesSpec.vars false zeroArgs.toList 16 = some ([.agg [.agg [.lit (.int .i64 0), .nil], .nil, .nil, .lit (.int .i64 0), .lit (.int .i64 0), .lit (.int .i64 0), .lit (.int .i64 0)]], [], places) :=
  ⟨[], by kernel_rfl⟩

set_option maxRecDepth 100000 in
theorem lifted (os : Os) (started : os.Started) (H : Type) (enc : TypeId × Value → H) (F : Stop.Interp) :
    ReturnsInHanded {} Tryz.checked os 3 .any ((OpenSpec.ofChange Rows.ruleHistoriesSpec).preRow enc Tryz.prog Tryz.f3 Rows.ruleHistoriesRow.domain false Rows.ruleHistoriesRow.laid) (((OpenSpec.ofChange Rows.ruleHistoriesSpec).at F).post enc Tryz.prog Tryz.f3 false true false false) := by
  obtain ⟨places, hx⟩ := reads os enc
  refine returnsInHanded_of_row (C := Tryz.checked) (s := OpenSpec.ofChange Rows.ruleHistoriesSpec) own started (by kernel_rfl) Tryz.func3
    ⟨start os, fun _ _ => 0, ⟨#[], zeroArgs, []⟩, World.laidAll_os _ _ _, World.shaped_of_ZipB (by kernel_rfl) (by kernel_rfl),
      (Input.okWide_of_okWideB (base := 0) (show Input.okWideB Tryz.checked.prog ((start os).forCall (fun _ _ => 0) ⟨#[], zeroArgs, []⟩) 3 ⟨#[], zeroArgs, []⟩ = true by kernel_rfl)).1,
      (Input.okWide_of_okWideB (show Input.okWideB Tryz.checked.prog ((start os).forCall (fun _ _ => 0) ⟨#[], zeroArgs, []⟩) 3 ⟨#[], zeroArgs, []⟩ = true by kernel_rfl)).2,
      OpenSpec.preRow_of_cond 16 hx (by kernel_rfl) (fun k hk => by cases hk) (by kernel_rfl) (laidMet_laidAll _ (by kernel_rfl) (by kernel_rfl)), by
        simp only [Assume.holds]
        exact ⟨by simp, by simp, fun _ => Modest.zero, by simp, by simp⟩⟩ ?_
  intro W base args ds gs before hval hW _ _ _ hL hsh _
  exact contract H enc W base args ds gs before hval hW hL hsh

theorem said : Rows.RuleHistoriesSaid :=
  OpenClaim.holds_of_cond 3 Tryz.f3 rfl rfl rfl rfl rfl rfl rfl ⟨rfl, rfl, rfl, rfl, rfl⟩ rfl rfl rfl rfl rfl (by kernel_rfl) Tryz.func3 (by kernel_rfl)
    (of_decide_eq_true (by kernel_rfl)) (by unfold Func.isWrapper; first | (rw [if_pos (by decide +kernel)]; kernel_rfl) | (rw [if_neg (by decide +kernel)]; exact ⟨rfl, rfl⟩))
    (fun os started H enc _ F => by rw [OpenClaim.pre_eq_preRow]; exact lifted os started H enc F)
end Go.Proofs.YtjoffnbpaebgjaaGreat.ruleHistories
