/-
  The reference's Row. By an AI agent.; The reference's ValidSigns. By an AI agent.; The reference's ValidEdicts. By an AI agent.
-/
import Derived.Test.YtlpdjinhkmgbgaaGreatDoorMgRuleWays5
import Derived.Test.YtlpdjinhkmgbgaaGreatDoorMgRuleWays6
import Derived.Deep.RegionHeld3
import Derived.Deep.RegionLawGrows
import Derived.Deep.AppendLies
import Derived.Deep.DeepCutAuto
import Derived.BigQuiet
import Derived.BigRegion

namespace Go.Proofs.YtlpdjinhkmgbgaaGreatDoor
set_option linter.unusedVariables false
set_option linter.unusedSimpArgs false
open Go.RowKit

theorem infoSg : (Tryz.prog.info? 69).map (fun i => (i.zero, i.size, i.bytes)) = some (some (.agg #[.int .i64 0, .int .i64 0, .int .i64 0, .int .i64 0, .int .i64 0, .int .i64 0, .int .i64 0, .int .i64 0, .slice none 0 0]), 9, 88) := by kernel_rfl
/-- The reference's row comes back. -/
def RrwE (L dir h : Int) (l : List Sgn) (w : World) (e : Ending) (w' : World) : Prop := ∃ b c, e = .returned (.slice b (insR L dir h l l.length).length c) ∧ SgnS w' b (insR L dir h l l.length) ∧ Below w.heap.size w w'
set_option maxRecDepth 100000 in
set_option maxHeartbeats 1000000 in
theorem refRow_r (L : Int) (a : Option Addr) (n ca : Nat) (aa : Option Addr) (l : List Sgn) (cl : Nat) (h dir : Int) (hL1 : 0 ≤ L) (hL2 : L ≤ 100000) (hC : ∀ j, j < l.length → 0 ≤ (gs l j).c ∧ (gs l j).c ≤ 100000) (hn : l.length ≤ 1000) (w : World) (hA : SgnS w aa l) :
    Calls Tryz.prog 80 #[.agg #[.int .i64 L, .slice a n ca], .slice aa l.length cl, .int .i64 h, .int .i64 dir] w (RrwE L dir h l w) := by
  obtain ⟨hlen, blk, off, ad, cp, hadr, hc⟩ := hA
  have HC := Lib.hid hc
  have HL : Hid (0 < l.length → aa = some ⟨blk, off, none⟩) := Lib.hid fun h => hadr (List.ne_nil_of_length_pos h)
  have HCb := Lib.hid hC
  have HSp := Lib.hid (fun k hk W (hW : Below w.heap.size w W) => refSpeaks_r (gs l k) (ad k) (cp k) h W ((hc k hk).2.2.below hW))
  have HLL := Lib.hid (And.intro hL1 hL2)
  clear hc hadr hC hL1 hL2
  obtain ⟨n0, hi, hz0, hz1, hz2⟩ := info_parts infoSg
  go_enter Tryz.func80, Tryz.ntmps80
  go_wp2_with fail
  obtain ⟨wo, hwo⟩ : ∃ wo, w.alloc (.cells #[.int .i64 L, .slice a n ca] 24) = wo := ⟨_, rfl⟩
  have hbo : Below w.heap.size w wo := by rw [← hwo]; exact (Below.refl _ _).alloc (Nat.le_refl _) _
  have l0 : wo.cell? ⟨w.heap.size, 0, none⟩ = some (.int .i64 L) := by rw [← hwo]; simp [go_sem]
  have l1 : wo.cell? ⟨w.heap.size, 1, none⟩ = some (.slice a n ca) := by rw [← hwo]; simp [go_sem]
  rw [hwo]
  clear hwo
  go_loopw [9, 10] (fun v i wr => ∃ k : Nat, k ≤ l.length ∧ i = .int .i64 k ∧ (∃ a c, v = .slice a (insE L dir h l ad cp k).length c) ∧ Hid (wr.ownsRow wo.heap.size 69 9 v (insE L dir h l ad cp k).length (clR (insE L dir h l ad cp k))) ∧ Below wo.heap.size wo wr) (fun _ i _ => l.length - (intOf i).toNat)
  case atStart => exact ⟨0, Nat.zero_le _, rfl, ⟨none, 0, rfl⟩, Lib.hid ⟨rfl, .inl ⟨rfl, rfl⟩⟩, Below.refl _ _⟩
  case round =>
    obtain ⟨k, hk, rfl, ⟨av, cv, rfl⟩, HRow, hbr⟩ := hrel
    have l0 := cell_below l0 hbr
    have l1 := cell_below l1 hbr
    have hbw := hbo.trans (hbr.mono hbo.size)
    by_cases hlt : k < l.length
    · obtain rfl := HL.out (by omega)
      obtain ⟨⟨c0, c1, c2, c3, c4, c5, c6, c7⟩, c8, hpr⟩ := HC.out k hlt
      clear hpr
      have c0 := cell_below c0 hbw
      have c1 := cell_below c1 hbw
      have c2 := cell_below c2 hbw
      have c3 := cell_below c3 hbw
      have c4 := cell_below c4 hbw
      have c5 := cell_below c5 hbw
      have c6 := cell_below c6 hbw
      have c7 := cell_below c7 hbw
      have c8 := cell_below c8 hbw
      have hkl : (k : Int) < (l.length : Int) := by omega
      have hmeas : l.length - (k + 1) < l.length - k := by omega
      have hcx := HCb.out k hlt
      have HSpk := Lib.hid (HSp.out k hlt wr hbw)
      have HSel : Hid (selB dir h (gs l k) = ((gs l k).d == dir && spkB (gs l k) h)) := Lib.hid rfl
      have HStep : Hid (∀ p, selB dir h (gs l k) = true → plcS L dir (gs l k) ((insE L dir h l ad cp k).map (·.1)) (insE L dir h l ad cp k).length = p → insE L dir h l ad cp (k + 1) = (insE L dir h l ad cp k).take p ++ (gs l k, ad k, cp k) :: (insE L dir h l ad cp k).drop p) := Lib.hid fun p h1 h2 => insE_step h1 h2
      have HSkip : Hid (selB dir h (gs l k) = false → insE L dir h l ad cp (k + 1) = insE L dir h l ad cp k) := Lib.hid fun h1 => insE_skip h1
      have HOm : Hid (∀ i, i < (insE L dir h l ad cp k).length → (insE L dir h l ad cp k)[i]!.1.d = dir ∧ 0 ≤ (insE L dir h l ad cp k)[i]!.1.c ∧ (insE L dir h l ad cp k)[i]!.1.c ≤ 100000) := Lib.hid fun i hi => by
        obtain ⟨j, hj, e, hs⟩ := insE_mem (List.getElem_mem hi)
        rw [getElem!_pos _ i hi, e]
        unfold selB at hs
        simp only [Bool.and_eq_true, beq_iff_eq] at hs
        exact ⟨hs.1, HCb.out j (by omega)⟩
      have hEl := insE_len L dir h l ad cp k
      clear HC HL HCb HSp
      generalize ad k = adk at *
      generalize cp k = cpk at *
      obtain ⟨x, hx⟩ : ∃ x, gs l k = x := ⟨_, rfl⟩
      rw [hx] at HSpk HSel HStep HSkip hcx c0 c1 c2 c3 c4 c5 c6 c7 c8
      clear hx
      obtain ⟨E1, hE1⟩ : ∃ E1, insE L dir h l ad cp (k + 1) = E1 := ⟨_, rfl⟩
      have HE1 := Lib.hid hE1
      rw [hE1] at HStep HSkip
      clear hE1
      obtain ⟨E, hE⟩ : ∃ E, insE L dir h l ad cp k = E := ⟨_, rfl⟩
      rw [hE] at HStep HSkip HOm hEl HRow ⊢
      clear hE
      have CALL : True := trivial
      by_cases hd : x.d = dir
      · have d1 : (x.d != dir) = false := by simp [hd]
        cases hs : spkB x h with
        | false =>
          have HN := Lib.hid (HSkip.out (by rw [HSel.out, hs, Bool.and_false]))
          rw [hs] at HSpk
          clear HSel HStep HSkip HOm hs hd
          go_wp2_with (go_at_call 115; with_reducible refine Calls.mono HSpk.out ?_; rintro e w1 ⟨rfl, hb1⟩)
          go_roundw
          case rel => exact ⟨k + 1, by omega, by go_num, ⟨av, cv, by rw [HE1.out, HN.out]⟩, Lib.hid (by rw [HE1.out, HN.out]; exact owns_belowI HRow.out hb1), hbr.trans (hb1.mono hbr.size)⟩
          case measure => first | (simp [intOf]; exact hmeas) | simpa [intOf] using hmeas
        | true =>
          have HN : Hid (∀ p, plcS L dir x (E.map (·.1)) E.length = p → E1 = E.take p ++ (x, adk, cpk) :: E.drop p) := Lib.hid fun p hp => HStep.out p (by rw [HSel.out, hs, hd]; simp) hp
          rw [hs] at HSpk
          have HD := Lib.hid hd
          clear HSel HStep HSkip hs hd
          go_wp2_with (go_at_call 115; with_reducible refine Calls.mono HSpk.out ?_; rintro e w1 ⟨rfl, hb1⟩)
          have hbr1 := hbr.trans (hb1.mono hbr.size)
          have HBW := Lib.hid (And.intro hbr1 (hbw.trans (hb1.mono hbw.size)))
          have HRow := Lib.hid (owns_belowI HRow.out hb1)
          replace l0 := cell_below l0 hb1
          replace l1 := cell_below l1 hb1
          replace c0 := cell_below c0 hb1
          replace c1 := cell_below c1 hb1
          replace c2 := cell_below c2 hb1
          replace c3 := cell_below c3 hb1
          replace c4 := cell_below c4 hb1
          replace c5 := cell_below c5 hb1
          replace c6 := cell_below c6 hb1
          replace c7 := cell_below c7 hb1
          replace c8 := cell_below c8 hb1
          have hs1 := hbr1.size
          clear hb1 hbr hbw hbr1 HSpk
          have HOc : Hid (∀ i, i < E.length → ∃ g, av = some ⟨g, 0, none⟩ ∧ ∀ c, c < 9 → w1.cell? ⟨g, i * 9 + c, none⟩ = (encS E[i]!)[c]?) := Lib.hid fun i hi => by
            rcases HRow.out.2 with ⟨h1, h2⟩ | ⟨g2, c2, cur, h1, _⟩
            · omega
            · obtain ⟨rfl, rfl⟩ : av = some ⟨g2, 0, none⟩ ∧ cv = c2 := by simpa using h1
              exact ⟨g2, rfl, fun c hc => (World.ownsRow.cellAt HRow.out (i * 9 + c) (by omega)).trans (clR_c E i hi c hc)⟩
          go_loopw [11] (fun v wr => ∃ j : Nat, j ≤ E.length ∧ v = .int .i64 j ∧ Hid (plcS L dir x (E.map (·.1)) E.length = plcS L dir x (E.map (·.1)) j) ∧ Below w1.heap.size w1 wr) (fun v _ => (intOf v).toNat)
          case atStart => exact ⟨E.length, Nat.le_refl _, rfl, Lib.hid rfl, Below.refl _ _⟩
          case round =>
            obtain ⟨j, hj, rfl, HP, hbr⟩ := hrel
            have l0 := cell_below l0 hbr
            have l1 := cell_below l1 hbr
            have c0 := cell_below c0 hbr
            have c1 := cell_below c1 hbr
            have c2 := cell_below c2 hbr
            have c3 := cell_below c3 hbr
            have c4 := cell_below c4 hbr
            have c5 := cell_below c5 hbr
            have c6 := cell_below c6 hbr
            have c7 := cell_below c7 hbr
            have c8 := cell_below c8 hbr
            by_cases hj0 : j = 0
            · subst hj0
              have dj : decide ((0 : Int) < ((0 : Nat) : Int)) = false := rfl
              have HN2 := Lib.hid (HN.out 0 HP.out)
              clear HN HP HOc HOm
              go_wp2_with fail
              go_quiet (fail)
              go_wp2_with fail
              have Zc0 := Lib.hid c0
              have Zc1 := Lib.hid c1
              have Zc2 := Lib.hid c2
              have Zc3 := Lib.hid c3
              have Zc4 := Lib.hid c4
              have Zc5 := Lib.hid c5
              have Zc6 := Lib.hid c6
              have Zc7 := Lib.hid c7
              have Zc8 := Lib.hid c8
              generalize hws : wr.drewN _ = ws
              have hbs : Below wr.heap.size wr ws := by rw [← hws]; exact below_drewN (Below.refl _ _) _
              clear hws
              have hbW := hbr.trans (hbs.mono hbr.size)
              have HRs := Lib.hid (owns_belowI HRow.out hbW)
              have hsW := hbW.size
              have hss := hbs.size
              have k0 := cell_below Zc0.out hbs
              have k1 := cell_below Zc1.out hbs
              have k2 := cell_below Zc2.out hbs
              have k3 := cell_below Zc3.out hbs
              have k4 := cell_below Zc4.out hbs
              have k5 := cell_below Zc5.out hbs
              have k6 := cell_below Zc6.out hbs
              have k7 := cell_below Zc7.out hbs
              have k8 := cell_below Zc8.out hbs
              have hzk : blk < ws.heap.size := block_lt k0
              clear hbs
              rcases HRs.out.2 with ⟨h1, hE0⟩ | ⟨g, c2, cur, h1, hg1, hg2, hnc, hcm, _⟩
              · obtain ⟨rfl, hc0⟩ : av = none ∧ cv = 0 := by simp at h1; exact ⟨h1.1, h1.2.2⟩
                have HE0 := Lib.hid hE0
                clear h1 hE0 hc0
                refine wp_region_held_drew (S := fun w' => Below ws.heap.size ws w') (by kernel_rfl) ((Below.refl _ _).drew) (fun hHeld => ?_)
                refine takeU (i := 0) (some 53) (.slice none E.length cv) (by kernel_rfl) (by kernel_rfl) (by kernel_rfl) (by kernel_rfl) (by kernel_rfl) (fun _ => by kernel_rfl) (fun _ _ _ h => h) hHeld ?_
                refine takeU (i := 1) (some 54) (.int .i64 0) (by kernel_rfl) (by kernel_rfl) (by kernel_rfl) (by kernel_rfl) (by kernel_rfl) (fun _ => by kernel_rfl) (fun _ _ _ h => h) hHeld ?_
                refine takeU (i := 2) (some 55) (.int .i64 0) (by kernel_rfl) (by kernel_rfl) (by kernel_rfl) (by kernel_rfl) (by kernel_rfl) (fun _ => by kernel_rfl) (fun _ _ _ h => h) hHeld ?_
                refine wpAnyH_take (i := 3) (oi := { dst := some 56, op := Go.Op.slice 25 (Go.Operand.tmp 53) none (some (Go.Operand.tmp 54)) (some (Go.Operand.tmp 55)), type := 25, pos := "ref.go:135", after := #[{ on := 0, ground := Go.Ground.data }, { on := 1, ground := Go.Ground.data }, { on := 2, ground := Go.Ground.data }], guard := none }) (v := .slice none 0 0) rfl (by kernel_rfl) (by kernel_rfl) (by kernel_rfl) (fun _ _ _ h => h) (.inl ⟨by kernel_rfl, fun w9 h9 => by
                  clear hHeld h9
                  go_simp <;> (intro hcj; exfalso; omega)⟩) hHeld ?_
                refine takeU (i := 4) (some 57) (.slice (some ⟨blk, off, none⟩) l.length cl) (by kernel_rfl) (by kernel_rfl) (by kernel_rfl) (by kernel_rfl) (by kernel_rfl) (fun _ => by kernel_rfl) (fun _ _ _ h => h) hHeld ?_
                refine takeU (i := 5) (some 58) (.int .i64 k) (by kernel_rfl) (by kernel_rfl) (by kernel_rfl) (by kernel_rfl) (by kernel_rfl) (fun _ => by kernel_rfl) (fun _ _ _ h => h) hHeld ?_
                refine wpAnyH_take (i := 6) (oi := { dst := some 59, op := Go.Op.indexAddr 25 (Go.Operand.tmp 57) (Go.Operand.tmp 58), type := 0, pos := "ref.go:135", after := #[{ on := 4, ground := Go.Ground.data }, { on := 5, ground := Go.Ground.data }], guard := none }) (v := .pointer (some ⟨blk, off + k * 9, none⟩)) rfl (by kernel_rfl) (by kernel_rfl) (by kernel_rfl) (fun _ _ _ h => h) (.inl ⟨by kernel_rfl, fun w9 h9 => by
                  clear hHeld h9
                  go_simp⟩) hHeld ?_
                refine wpAnyH_take (i := 7) (oi := { dst := some 60, op := Go.Op.load 69 (Go.Operand.tmp 59), type := 69, pos := "ref.go:135", after := #[{ on := 6, ground := Go.Ground.data }], guard := none }) (v := .agg #[.int .i64 x.n, .int .i64 x.k, .int .i64 x.v, .int .i64 x.c, .int .i64 x.d, .int .i64 x.rk, .int .i64 x.up, .int .i64 x.dn, .slice adk x.cv.length cpk]) rfl (by kernel_rfl) (by kernel_rfl) (by kernel_rfl) (fun _ _ _ h => h) (.inl ⟨by kernel_rfl, fun w9 h9 => by
                  clear hHeld
                  have d0 := (h9.cell (p := ⟨blk, off + k * 9, none⟩) hzk).trans k0
                  have d1 := (h9.cell (p := ⟨blk, off + k * 9 + 1, none⟩) hzk).trans k1
                  have d2 := (h9.cell (p := ⟨blk, off + k * 9 + 2, none⟩) hzk).trans k2
                  have d3 := (h9.cell (p := ⟨blk, off + k * 9 + 3, none⟩) hzk).trans k3
                  have d4 := (h9.cell (p := ⟨blk, off + k * 9 + 4, none⟩) hzk).trans k4
                  have d5 := (h9.cell (p := ⟨blk, off + k * 9 + 5, none⟩) hzk).trans k5
                  have d6 := (h9.cell (p := ⟨blk, off + k * 9 + 6, none⟩) hzk).trans k6
                  have d7 := (h9.cell (p := ⟨blk, off + k * 9 + 7, none⟩) hzk).trans k7
                  have d8 := (h9.cell (p := ⟨blk, off + k * 9 + 8, none⟩) hzk).trans k8
                  clear h9
                  go_simp⟩) hHeld ?_
                refine takeU (i := 9) (some 62) (.slice none E.length cv) (by kernel_rfl) (by kernel_rfl) (by kernel_rfl) (by kernel_rfl) (by kernel_rfl) (fun _ => by kernel_rfl) (fun _ _ _ h => h) hHeld ?_
                refine takeU (i := 10) (some 63) (.int .i64 0) (by kernel_rfl) (by kernel_rfl) (by kernel_rfl) (by kernel_rfl) (by kernel_rfl) (fun _ => by kernel_rfl) (fun _ _ _ h => h) hHeld ?_
                refine wpAnyH_take (i := 11) (oi := { dst := some 64, op := Go.Op.slice 25 (Go.Operand.tmp 62) (some (Go.Operand.tmp 63)) none none, type := 25, pos := "ref.go:135", after := #[{ on := 9, ground := Go.Ground.data }, { on := 10, ground := Go.Ground.data }], guard := none }) (v := .slice none E.length cv) rfl (by kernel_rfl) (by kernel_rfl) (by kernel_rfl) (fun _ _ _ h => h) (.inl ⟨by kernel_rfl, fun w9 h9 => by
                  clear hHeld h9
                  go_simp <;> (intro hcj; exfalso; omega)⟩) hHeld ?_
                try simp only [Act.put, List.setIfInBounds_toArray, List.set_cons_zero, List.set_cons_succ]
                refine wpAnyH_ready (rs := [8]) (by kernel_rfl) (by simp) ?_
                refine AllReadyH.cons (o := { dst := some 61, op := Go.Op.buildSlice 25 1 #[(0, Go.Operand.tmp 60)], type := 25, pos := "ref.go:135", after := #[{ on := 7, ground := Go.Ground.data }], guard := none }) rfl (fun K hK => ?_) AllReadyH.nil
                go_simp
                refine hK.out _ _ (hHeld.alloc (Nat.le_refl _) _) (fun hHeld => ?_)
                clear hK K
                try simp only [Act.put, List.setIfInBounds_toArray, List.set_cons_zero, List.set_cons_succ]
                have hown0 : (ws.drew.alloc (.cells #[.int .i64 x.n, .int .i64 x.k, .int .i64 x.v, .int .i64 x.c, .int .i64 x.d, .int .i64 x.rk, .int .i64 x.up, .int .i64 x.dn, .slice adk x.cv.length cpk] 69)).ownsRow ws.heap.size 69 9 (.slice (some ⟨ws.heap.size, 0, none⟩) 1 1) 1 [.int .i64 x.n, .int .i64 x.k, .int .i64 x.v, .int .i64 x.c, .int .i64 x.d, .int .i64 x.rk, .int .i64 x.up, .int .i64 x.dn, .slice adk x.cv.length cpk] := ⟨rfl, .inr ⟨ws.heap.size, 1, #[.int .i64 x.n, .int .i64 x.k, .int .i64 x.v, .int .i64 x.c, .int .i64 x.d, .int .i64 x.rk, .int .i64 x.up, .int .i64 x.dn, .slice adk x.cv.length cpk], rfl, Nat.le_refl _, heap_alloc_new _ _, Nat.le_refl 1, by decide, rfl, rfl⟩⟩
                refine wpAnyH_ready (rs := [12]) (by kernel_rfl) (by simp) ?_
                refine AllReadyH.cons (o := { dst := some 65, op := Go.Op.call { callee := Go.Callee.builtin Go.Builtin.append, args := #[Go.Operand.tmp 61, Go.Operand.tmp 64], argTypes := #[25, 25] }, type := 25, pos := "ref.go:135", after := #[{ on := 8, ground := Go.Ground.data }, { on := 11, ground := Go.Ground.data }], guard := none }) rfl (fun K hK => ?_) AllReadyH.nil
                refine stepZ (by rfl) _ _ 25 (by rfl) ws.heap.size 69 n0 9 Tryz.underlying25 hi (.slice (some ⟨ws.heap.size, 0, none⟩) 1 1) 1 [.int .i64 x.n, .int .i64 x.k, .int .i64 x.v, .int .i64 x.c, .int .i64 x.d, .int .i64 x.rk, .int .i64 x.up, .int .i64 x.dn, .slice adk x.cv.length cpk] (by rfl) hown0 none E.length cv (by rfl) (by have := HE0.out; omega) ?_
                refine hK.out _ _ hHeld (fun hHeld => ?_)
                clear hK K
                try simp only [Act.put, List.setIfInBounds_toArray, List.set_cons_zero, List.set_cons_succ]
                refine wpAnyH_ready (rs := [13]) (by kernel_rfl) (by simp) ?_
                refine AllReadyH.cons (o := { dst := some 66, op := Go.Op.call { callee := Go.Callee.builtin Go.Builtin.append, args := #[Go.Operand.tmp 56, Go.Operand.tmp 65], argTypes := #[25, 25] }, type := 25, pos := "ref.go:135", after := #[{ on := 3, ground := Go.Ground.data }, { on := 12, ground := Go.Ground.data }, { on := 12, ground := Go.Ground.chain }], guard := none }) rfl (fun K hK => ?_) AllReadyH.nil
                refine step_append_grows (by rfl) _ _ 25 (by rfl) 69 n0 _ 9 88 Tryz.underlying25 hi hz0 hz1 hz2 rfl (by decide) none 0 0 (clR (E.take 0)) (by rfl) (fun _ => ⟨rfl, rfl⟩) (by rw [clR_len, List.length_take]; omega) (fun b hb => by cases hb) ⟨ws.heap.size, 0, none⟩ 1 1 [.int .i64 x.n, .int .i64 x.k, .int .i64 x.v, .int .i64 x.c, .int .i64 x.d, .int .i64 x.rk, .int .i64 x.up, .int .i64 x.dn, .slice adk x.cv.length cpk] (by rfl) hown0.1 (fun j9 u hu => by
                  have hjl : j9 < 1 * 9 := by rw [← hown0.1]; exact (List.getElem?_eq_some_iff.1 hu).1
                  rw [Addr.add_lit, Nat.zero_add]; exact (World.ownsRow.cellAt hown0 j9 hjl).trans hu) (by exact clR_one [(x, adk, cpk)]) (by omega) (by unfold maxLen; omega) (by omega) ?_
                intro v7 w7 hown7 hgrow7
                obtain ⟨g7, c7, rfl, hg7, hl7⟩ := World.ownsRow.form hown7 (by omega)
                have HO7 := Lib.hid (owns_baseI hown7 (base' := wo.heap.size) (Nat.le_trans hs1 (Nat.le_trans hsW hHeld.size)))
                refine hK.out _ _ (hHeld.grown hgrow7 hHeld.size (fun z hz => by cases hz)) (fun hHeld => ?_)
                clear hK K hown7 hgrow7
                try simp only [Act.put, List.setIfInBounds_toArray, List.set_cons_zero, List.set_cons_succ]
                refine takeU (i := 14) (some 9) (.slice (some ⟨g7, 0, none⟩) (0 + 1) c7) (by kernel_rfl) (by kernel_rfl) (by kernel_rfl) (by kernel_rfl) (by kernel_rfl) (fun _ => by kernel_rfl) (fun _ _ _ h => h) hHeld ?_
                refine wpAnyH_done (by kernel_rfl) ?_ _
                try simp only [Act.put, List.setIfInBounds_toArray, List.set_cons_zero, List.set_cons_succ]
                have HL7 : Hid (0 + 1 = E1.length) := Lib.hid (by have := HE0.out; rw [HN2.out, List.length_append, List.length_cons, List.length_take, List.length_drop]; omega)
                have HC7 : Hid (clR (E.take 0) ++ [.int .i64 x.n, .int .i64 x.k, .int .i64 x.v, .int .i64 x.c, .int .i64 x.d, .int .i64 x.rk, .int .i64 x.up, .int .i64 x.dn, .slice adk x.cv.length cpk] = clR E1) := Lib.hid (by have := HE0.out; rw [HN2.out, clR_app, List.drop_of_length_le (by omega)]; rfl)
                have HBF := Lib.hid (HBW.out.1.trans ((hbW.trans (hHeld.mono hsW)).mono hs1))
                go_wp2_with fail
                go_roundw
                case rel => exact ⟨k + 1, by omega, by go_num, ⟨some ⟨g7, 0, none⟩, c7, by rw [HE1.out, ← HL7.out]⟩, Lib.hid (by rw [HE1.out, ← HL7.out, ← HC7.out]; exact HO7.out), HBF.out⟩
                case measure => first | (simp [intOf]; exact hmeas) | simpa [intOf] using hmeas
              · obtain ⟨rfl, rfl⟩ : av = some ⟨g, 0, none⟩ ∧ cv = c2 := by simpa using h1
                clear h1
                have hgz : g < ws.heap.size := (Array.getElem?_eq_some_iff.1 hg2).1
                have hcm2 : cv ≤ 9223372036854775807 := by unfold maxLen at hcm; omega
                by_cases hE0 : E.length = 0
                · have HE0 := Lib.hid hE0
                  clear hE0
                  refine wp_region_held_drew (S := fun w' => Below ws.heap.size ws w') (by kernel_rfl) ((Below.refl _ _).drew) (fun hHeld => ?_)
                  refine takeU (i := 0) (some 53) (.slice (some ⟨g, 0, none⟩) E.length cv) (by kernel_rfl) (by kernel_rfl) (by kernel_rfl) (by kernel_rfl) (by kernel_rfl) (fun _ => by kernel_rfl) (fun _ _ _ h => h) hHeld ?_
                  refine takeU (i := 1) (some 54) (.int .i64 0) (by kernel_rfl) (by kernel_rfl) (by kernel_rfl) (by kernel_rfl) (by kernel_rfl) (fun _ => by kernel_rfl) (fun _ _ _ h => h) hHeld ?_
                  refine takeU (i := 2) (some 55) (.int .i64 0) (by kernel_rfl) (by kernel_rfl) (by kernel_rfl) (by kernel_rfl) (by kernel_rfl) (fun _ => by kernel_rfl) (fun _ _ _ h => h) hHeld ?_
                  refine wpAnyH_take (i := 3) (oi := { dst := some 56, op := Go.Op.slice 25 (Go.Operand.tmp 53) none (some (Go.Operand.tmp 54)) (some (Go.Operand.tmp 55)), type := 25, pos := "ref.go:135", after := #[{ on := 0, ground := Go.Ground.data }, { on := 1, ground := Go.Ground.data }, { on := 2, ground := Go.Ground.data }], guard := none }) (v := .slice (some ⟨g, 0, none⟩) 0 0) rfl (by kernel_rfl) (by kernel_rfl) (by kernel_rfl) (fun _ _ _ h => h) (.inl ⟨by kernel_rfl, fun w9 h9 => by
                    clear hHeld h9
                    go_simp <;> (intro hcj; exfalso; omega)⟩) hHeld ?_
                  refine takeU (i := 4) (some 57) (.slice (some ⟨blk, off, none⟩) l.length cl) (by kernel_rfl) (by kernel_rfl) (by kernel_rfl) (by kernel_rfl) (by kernel_rfl) (fun _ => by kernel_rfl) (fun _ _ _ h => h) hHeld ?_
                  refine takeU (i := 5) (some 58) (.int .i64 k) (by kernel_rfl) (by kernel_rfl) (by kernel_rfl) (by kernel_rfl) (by kernel_rfl) (fun _ => by kernel_rfl) (fun _ _ _ h => h) hHeld ?_
                  refine wpAnyH_take (i := 6) (oi := { dst := some 59, op := Go.Op.indexAddr 25 (Go.Operand.tmp 57) (Go.Operand.tmp 58), type := 0, pos := "ref.go:135", after := #[{ on := 4, ground := Go.Ground.data }, { on := 5, ground := Go.Ground.data }], guard := none }) (v := .pointer (some ⟨blk, off + k * 9, none⟩)) rfl (by kernel_rfl) (by kernel_rfl) (by kernel_rfl) (fun _ _ _ h => h) (.inl ⟨by kernel_rfl, fun w9 h9 => by
                    clear hHeld h9
                    go_simp⟩) hHeld ?_
                  refine wpAnyH_take (i := 7) (oi := { dst := some 60, op := Go.Op.load 69 (Go.Operand.tmp 59), type := 69, pos := "ref.go:135", after := #[{ on := 6, ground := Go.Ground.data }], guard := none }) (v := .agg #[.int .i64 x.n, .int .i64 x.k, .int .i64 x.v, .int .i64 x.c, .int .i64 x.d, .int .i64 x.rk, .int .i64 x.up, .int .i64 x.dn, .slice adk x.cv.length cpk]) rfl (by kernel_rfl) (by kernel_rfl) (by kernel_rfl) (fun _ _ _ h => h) (.inl ⟨by kernel_rfl, fun w9 h9 => by
                    clear hHeld
                    have d0 := (h9.cell (p := ⟨blk, off + k * 9, none⟩) hzk).trans k0
                    have d1 := (h9.cell (p := ⟨blk, off + k * 9 + 1, none⟩) hzk).trans k1
                    have d2 := (h9.cell (p := ⟨blk, off + k * 9 + 2, none⟩) hzk).trans k2
                    have d3 := (h9.cell (p := ⟨blk, off + k * 9 + 3, none⟩) hzk).trans k3
                    have d4 := (h9.cell (p := ⟨blk, off + k * 9 + 4, none⟩) hzk).trans k4
                    have d5 := (h9.cell (p := ⟨blk, off + k * 9 + 5, none⟩) hzk).trans k5
                    have d6 := (h9.cell (p := ⟨blk, off + k * 9 + 6, none⟩) hzk).trans k6
                    have d7 := (h9.cell (p := ⟨blk, off + k * 9 + 7, none⟩) hzk).trans k7
                    have d8 := (h9.cell (p := ⟨blk, off + k * 9 + 8, none⟩) hzk).trans k8
                    clear h9
                    go_simp⟩) hHeld ?_
                  refine takeU (i := 9) (some 62) (.slice (some ⟨g, 0, none⟩) E.length cv) (by kernel_rfl) (by kernel_rfl) (by kernel_rfl) (by kernel_rfl) (by kernel_rfl) (fun _ => by kernel_rfl) (fun _ _ _ h => h) hHeld ?_
                  refine takeU (i := 10) (some 63) (.int .i64 0) (by kernel_rfl) (by kernel_rfl) (by kernel_rfl) (by kernel_rfl) (by kernel_rfl) (fun _ => by kernel_rfl) (fun _ _ _ h => h) hHeld ?_
                  refine wpAnyH_take (i := 11) (oi := { dst := some 64, op := Go.Op.slice 25 (Go.Operand.tmp 62) (some (Go.Operand.tmp 63)) none none, type := 25, pos := "ref.go:135", after := #[{ on := 9, ground := Go.Ground.data }, { on := 10, ground := Go.Ground.data }], guard := none }) (v := .slice (some ⟨g, 0, none⟩) E.length cv) rfl (by kernel_rfl) (by kernel_rfl) (by kernel_rfl) (fun _ _ _ h => h) (.inl ⟨by kernel_rfl, fun w9 h9 => by
                    clear hHeld h9
                    go_simp <;> (intro hcj; exfalso; omega)⟩) hHeld ?_
                  try simp only [Act.put, List.setIfInBounds_toArray, List.set_cons_zero, List.set_cons_succ]
                  refine wpAnyH_ready (rs := [8]) (by kernel_rfl) (by simp) ?_
                  refine AllReadyH.cons (o := { dst := some 61, op := Go.Op.buildSlice 25 1 #[(0, Go.Operand.tmp 60)], type := 25, pos := "ref.go:135", after := #[{ on := 7, ground := Go.Ground.data }], guard := none }) rfl (fun K hK => ?_) AllReadyH.nil
                  go_simp
                  refine hK.out _ _ (hHeld.alloc (Nat.le_refl _) _) (fun hHeld => ?_)
                  clear hK K
                  try simp only [Act.put, List.setIfInBounds_toArray, List.set_cons_zero, List.set_cons_succ]
                  have hown0 : (ws.drew.alloc (.cells #[.int .i64 x.n, .int .i64 x.k, .int .i64 x.v, .int .i64 x.c, .int .i64 x.d, .int .i64 x.rk, .int .i64 x.up, .int .i64 x.dn, .slice adk x.cv.length cpk] 69)).ownsRow ws.heap.size 69 9 (.slice (some ⟨ws.heap.size, 0, none⟩) 1 1) 1 [.int .i64 x.n, .int .i64 x.k, .int .i64 x.v, .int .i64 x.c, .int .i64 x.d, .int .i64 x.rk, .int .i64 x.up, .int .i64 x.dn, .slice adk x.cv.length cpk] := ⟨rfl, .inr ⟨ws.heap.size, 1, #[.int .i64 x.n, .int .i64 x.k, .int .i64 x.v, .int .i64 x.c, .int .i64 x.d, .int .i64 x.rk, .int .i64 x.up, .int .i64 x.dn, .slice adk x.cv.length cpk], rfl, Nat.le_refl _, heap_alloc_new _ _, Nat.le_refl 1, by decide, rfl, rfl⟩⟩
                  refine wpAnyH_ready (rs := [12]) (by kernel_rfl) (by simp) ?_
                  refine AllReadyH.cons (o := { dst := some 65, op := Go.Op.call { callee := Go.Callee.builtin Go.Builtin.append, args := #[Go.Operand.tmp 61, Go.Operand.tmp 64], argTypes := #[25, 25] }, type := 25, pos := "ref.go:135", after := #[{ on := 8, ground := Go.Ground.data }, { on := 11, ground := Go.Ground.data }], guard := none }) rfl (fun K hK => ?_) AllReadyH.nil
                  refine stepZ (by rfl) _ _ 25 (by rfl) ws.heap.size 69 n0 9 Tryz.underlying25 hi (.slice (some ⟨ws.heap.size, 0, none⟩) 1 1) 1 [.int .i64 x.n, .int .i64 x.k, .int .i64 x.v, .int .i64 x.c, .int .i64 x.d, .int .i64 x.rk, .int .i64 x.up, .int .i64 x.dn, .slice adk x.cv.length cpk] (by rfl) hown0 (some ⟨g, 0, none⟩) E.length cv (by rfl) (by have := HE0.out; omega) ?_
                  refine hK.out _ _ hHeld (fun hHeld => ?_)
                  clear hK K
                  try simp only [Act.put, List.setIfInBounds_toArray, List.set_cons_zero, List.set_cons_succ]
                  refine wpAnyH_ready (rs := [13]) (by kernel_rfl) (by simp) ?_
                  refine AllReadyH.cons (o := { dst := some 66, op := Go.Op.call { callee := Go.Callee.builtin Go.Builtin.append, args := #[Go.Operand.tmp 56, Go.Operand.tmp 65], argTypes := #[25, 25] }, type := 25, pos := "ref.go:135", after := #[{ on := 3, ground := Go.Ground.data }, { on := 12, ground := Go.Ground.data }, { on := 12, ground := Go.Ground.chain }], guard := none }) rfl (fun K hK => ?_) AllReadyH.nil
                  refine step_append_grows (by rfl) _ _ 25 (by rfl) 69 n0 _ 9 88 Tryz.underlying25 hi hz0 hz1 hz2 rfl (by decide) (some ⟨g, 0, none⟩) 0 0 (clR (E.take 0)) (by rfl) (fun e => by cases e) (by rw [clR_len, List.length_take]; omega) (fun b hb j9 u hu => by simp [clR] at hu) ⟨ws.heap.size, 0, none⟩ 1 1 [.int .i64 x.n, .int .i64 x.k, .int .i64 x.v, .int .i64 x.c, .int .i64 x.d, .int .i64 x.rk, .int .i64 x.up, .int .i64 x.dn, .slice adk x.cv.length cpk] (by rfl) hown0.1 (fun j9 u hu => by
                    have hjl : j9 < 1 * 9 := by rw [← hown0.1]; exact (List.getElem?_eq_some_iff.1 hu).1
                    rw [Addr.add_lit, Nat.zero_add]; exact (World.ownsRow.cellAt hown0 j9 hjl).trans hu) (by exact clR_one [(x, adk, cpk)]) (by omega) (by unfold maxLen; omega) (by omega) ?_
                  intro v7 w7 hown7 hgrow7
                  obtain ⟨g7, c7, rfl, hg7, hl7⟩ := World.ownsRow.form hown7 (by omega)
                  have HO7 := Lib.hid (owns_baseI hown7 (base' := wo.heap.size) (Nat.le_trans hs1 (Nat.le_trans hsW hHeld.size)))
                  refine hK.out _ _ (hHeld.grown hgrow7 hHeld.size (fun z hz => by cases hz)) (fun hHeld => ?_)
                  clear hK K hown7 hgrow7
                  try simp only [Act.put, List.setIfInBounds_toArray, List.set_cons_zero, List.set_cons_succ]
                  refine takeU (i := 14) (some 9) (.slice (some ⟨g7, 0, none⟩) (0 + 1) c7) (by kernel_rfl) (by kernel_rfl) (by kernel_rfl) (by kernel_rfl) (by kernel_rfl) (fun _ => by kernel_rfl) (fun _ _ _ h => h) hHeld ?_
                  refine wpAnyH_done (by kernel_rfl) ?_ _
                  try simp only [Act.put, List.setIfInBounds_toArray, List.set_cons_zero, List.set_cons_succ]
                  have HL7 : Hid (0 + 1 = E1.length) := Lib.hid (by have := HE0.out; rw [HN2.out, List.length_append, List.length_cons, List.length_take, List.length_drop]; omega)
                  have HC7 : Hid (clR (E.take 0) ++ [.int .i64 x.n, .int .i64 x.k, .int .i64 x.v, .int .i64 x.c, .int .i64 x.d, .int .i64 x.rk, .int .i64 x.up, .int .i64 x.dn, .slice adk x.cv.length cpk] = clR E1) := Lib.hid (by have := HE0.out; rw [HN2.out, clR_app, List.drop_of_length_le (by omega)]; rfl)
                  have HBF := Lib.hid (HBW.out.1.trans ((hbW.trans (hHeld.mono hsW)).mono hs1))
                  go_wp2_with fail
                  go_roundw
                  case rel => exact ⟨k + 1, by omega, by go_num, ⟨some ⟨g7, 0, none⟩, c7, by rw [HE1.out, ← HL7.out]⟩, Lib.hid (by rw [HE1.out, ← HL7.out, ← HC7.out]; exact HO7.out), HBF.out⟩
                  case measure => first | (simp [intOf]; exact hmeas) | simpa [intOf] using hmeas
                · have HE0 := Lib.hid hE0
                  clear hE0
                  refine wp_region_held_drew (S := fun w' => Below ws.heap.size ws w') (by kernel_rfl) ((Below.refl _ _).drew) (fun hHeld => ?_)
                  refine takeU (i := 0) (some 53) (.slice (some ⟨g, 0, none⟩) E.length cv) (by kernel_rfl) (by kernel_rfl) (by kernel_rfl) (by kernel_rfl) (by kernel_rfl) (fun _ => by kernel_rfl) (fun _ _ _ h => h) hHeld ?_
                  refine takeU (i := 1) (some 54) (.int .i64 0) (by kernel_rfl) (by kernel_rfl) (by kernel_rfl) (by kernel_rfl) (by kernel_rfl) (fun _ => by kernel_rfl) (fun _ _ _ h => h) hHeld ?_
                  refine takeU (i := 2) (some 55) (.int .i64 0) (by kernel_rfl) (by kernel_rfl) (by kernel_rfl) (by kernel_rfl) (by kernel_rfl) (fun _ => by kernel_rfl) (fun _ _ _ h => h) hHeld ?_
                  refine wpAnyH_take (i := 3) (oi := { dst := some 56, op := Go.Op.slice 25 (Go.Operand.tmp 53) none (some (Go.Operand.tmp 54)) (some (Go.Operand.tmp 55)), type := 25, pos := "ref.go:135", after := #[{ on := 0, ground := Go.Ground.data }, { on := 1, ground := Go.Ground.data }, { on := 2, ground := Go.Ground.data }], guard := none }) (v := .slice (some ⟨g, 0, none⟩) 0 0) rfl (by kernel_rfl) (by kernel_rfl) (by kernel_rfl) (fun _ _ _ h => h) (.inl ⟨by kernel_rfl, fun w9 h9 => by
                    clear hHeld h9
                    go_simp <;> (intro hcj; exfalso; omega)⟩) hHeld ?_
                  refine takeU (i := 4) (some 57) (.slice (some ⟨blk, off, none⟩) l.length cl) (by kernel_rfl) (by kernel_rfl) (by kernel_rfl) (by kernel_rfl) (by kernel_rfl) (fun _ => by kernel_rfl) (fun _ _ _ h => h) hHeld ?_
                  refine takeU (i := 5) (some 58) (.int .i64 k) (by kernel_rfl) (by kernel_rfl) (by kernel_rfl) (by kernel_rfl) (by kernel_rfl) (fun _ => by kernel_rfl) (fun _ _ _ h => h) hHeld ?_
                  refine wpAnyH_take (i := 6) (oi := { dst := some 59, op := Go.Op.indexAddr 25 (Go.Operand.tmp 57) (Go.Operand.tmp 58), type := 0, pos := "ref.go:135", after := #[{ on := 4, ground := Go.Ground.data }, { on := 5, ground := Go.Ground.data }], guard := none }) (v := .pointer (some ⟨blk, off + k * 9, none⟩)) rfl (by kernel_rfl) (by kernel_rfl) (by kernel_rfl) (fun _ _ _ h => h) (.inl ⟨by kernel_rfl, fun w9 h9 => by
                    clear hHeld h9
                    go_simp⟩) hHeld ?_
                  refine wpAnyH_take (i := 7) (oi := { dst := some 60, op := Go.Op.load 69 (Go.Operand.tmp 59), type := 69, pos := "ref.go:135", after := #[{ on := 6, ground := Go.Ground.data }], guard := none }) (v := .agg #[.int .i64 x.n, .int .i64 x.k, .int .i64 x.v, .int .i64 x.c, .int .i64 x.d, .int .i64 x.rk, .int .i64 x.up, .int .i64 x.dn, .slice adk x.cv.length cpk]) rfl (by kernel_rfl) (by kernel_rfl) (by kernel_rfl) (fun _ _ _ h => h) (.inl ⟨by kernel_rfl, fun w9 h9 => by
                    clear hHeld
                    have d0 := (h9.cell (p := ⟨blk, off + k * 9, none⟩) hzk).trans k0
                    have d1 := (h9.cell (p := ⟨blk, off + k * 9 + 1, none⟩) hzk).trans k1
                    have d2 := (h9.cell (p := ⟨blk, off + k * 9 + 2, none⟩) hzk).trans k2
                    have d3 := (h9.cell (p := ⟨blk, off + k * 9 + 3, none⟩) hzk).trans k3
                    have d4 := (h9.cell (p := ⟨blk, off + k * 9 + 4, none⟩) hzk).trans k4
                    have d5 := (h9.cell (p := ⟨blk, off + k * 9 + 5, none⟩) hzk).trans k5
                    have d6 := (h9.cell (p := ⟨blk, off + k * 9 + 6, none⟩) hzk).trans k6
                    have d7 := (h9.cell (p := ⟨blk, off + k * 9 + 7, none⟩) hzk).trans k7
                    have d8 := (h9.cell (p := ⟨blk, off + k * 9 + 8, none⟩) hzk).trans k8
                    clear h9
                    go_simp⟩) hHeld ?_
                  refine takeU (i := 9) (some 62) (.slice (some ⟨g, 0, none⟩) E.length cv) (by kernel_rfl) (by kernel_rfl) (by kernel_rfl) (by kernel_rfl) (by kernel_rfl) (fun _ => by kernel_rfl) (fun _ _ _ h => h) hHeld ?_
                  refine takeU (i := 10) (some 63) (.int .i64 0) (by kernel_rfl) (by kernel_rfl) (by kernel_rfl) (by kernel_rfl) (by kernel_rfl) (fun _ => by kernel_rfl) (fun _ _ _ h => h) hHeld ?_
                  refine wpAnyH_take (i := 11) (oi := { dst := some 64, op := Go.Op.slice 25 (Go.Operand.tmp 62) (some (Go.Operand.tmp 63)) none none, type := 25, pos := "ref.go:135", after := #[{ on := 9, ground := Go.Ground.data }, { on := 10, ground := Go.Ground.data }], guard := none }) (v := .slice (some ⟨g, 0, none⟩) E.length cv) rfl (by kernel_rfl) (by kernel_rfl) (by kernel_rfl) (fun _ _ _ h => h) (.inl ⟨by kernel_rfl, fun w9 h9 => by
                    clear hHeld h9
                    go_simp <;> (intro hcj; exfalso; omega)⟩) hHeld ?_
                  try simp only [Act.put, List.setIfInBounds_toArray, List.set_cons_zero, List.set_cons_succ]
                  refine wpAnyH_ready (rs := [8]) (by kernel_rfl) (by simp) ?_
                  refine AllReadyH.cons (o := { dst := some 61, op := Go.Op.buildSlice 25 1 #[(0, Go.Operand.tmp 60)], type := 25, pos := "ref.go:135", after := #[{ on := 7, ground := Go.Ground.data }], guard := none }) rfl (fun K hK => ?_) AllReadyH.nil
                  go_simp
                  refine hK.out _ _ (hHeld.alloc (Nat.le_refl _) _) (fun hHeld => ?_)
                  clear hK K
                  try simp only [Act.put, List.setIfInBounds_toArray, List.set_cons_zero, List.set_cons_succ]
                  have hown0 : (ws.drew.alloc (.cells #[.int .i64 x.n, .int .i64 x.k, .int .i64 x.v, .int .i64 x.c, .int .i64 x.d, .int .i64 x.rk, .int .i64 x.up, .int .i64 x.dn, .slice adk x.cv.length cpk] 69)).ownsRow ws.heap.size 69 9 (.slice (some ⟨ws.heap.size, 0, none⟩) 1 1) 1 [.int .i64 x.n, .int .i64 x.k, .int .i64 x.v, .int .i64 x.c, .int .i64 x.d, .int .i64 x.rk, .int .i64 x.up, .int .i64 x.dn, .slice adk x.cv.length cpk] := ⟨rfl, .inr ⟨ws.heap.size, 1, #[.int .i64 x.n, .int .i64 x.k, .int .i64 x.v, .int .i64 x.c, .int .i64 x.d, .int .i64 x.rk, .int .i64 x.up, .int .i64 x.dn, .slice adk x.cv.length cpk], rfl, Nat.le_refl _, heap_alloc_new _ _, Nat.le_refl 1, by decide, rfl, rfl⟩⟩
                  refine wpAnyH_ready (rs := [12]) (by kernel_rfl) (by simp) ?_
                  refine AllReadyH.cons (o := { dst := some 65, op := Go.Op.call { callee := Go.Callee.builtin Go.Builtin.append, args := #[Go.Operand.tmp 61, Go.Operand.tmp 64], argTypes := #[25, 25] }, type := 25, pos := "ref.go:135", after := #[{ on := 8, ground := Go.Ground.data }, { on := 11, ground := Go.Ground.data }], guard := none }) rfl (fun K hK => ?_) AllReadyH.nil
                  have hnw : ∀ (j9 : Nat) (u : Value), (clR (E.drop 0))[j9]? = some u → (ws.drew.alloc (.cells #[.int .i64 x.n, .int .i64 x.k, .int .i64 x.v, .int .i64 x.c, .int .i64 x.d, .int .i64 x.rk, .int .i64 x.up, .int .i64 x.dn, .slice adk x.cv.length cpk] 69)).cell? ((⟨g, 0, none⟩ : Addr).add j9) = some u := fun j9 u hu => by
                    have hjl : j9 < (E.length - 0) * 9 := by
                      have := (List.getElem?_eq_some_iff.1 hu).1
                      rw [clR_len, List.length_drop] at this
                      exact this
                    rw [← clR_drop, List.getElem?_drop] at hu
                    rw [Addr.add_lit]
                    refine (hHeld.cell (p := ⟨g, 0 + j9, none⟩) hgz).trans ?_
                    have h9 := World.ownsRow.cellAt HRs.out (0 * 9 + j9) (by have := HE0.out; omega)
                    rw [Nat.zero_mul] at h9 hu
                    exact h9.trans hu
                  refine step_append_lies _ (by rfl) _ _ _ (by rfl) ws.heap.size 69 n0 _ 9 88 Tryz.underlying25 hi hz0 hz1 hz2 rfl (by decide) (.slice (some ⟨ws.heap.size, 0, none⟩) 1 1) 1 [.int .i64 x.n, .int .i64 x.k, .int .i64 x.v, .int .i64 x.c, .int .i64 x.d, .int .i64 x.rk, .int .i64 x.up, .int .i64 x.dn, .slice adk x.cv.length cpk] (by rfl) hown0 ⟨g, 0, none⟩ E.length cv (clR (E.drop 0)) (by rfl) (by rw [clR_len, List.length_drop] <;> rfl) hnw (clR_one _) (by have := HE0.out; omega) (by unfold maxLen; omega) (by omega) (by simp) _ rfl ?_
                  intro g6 c6 w6 hown6 hgrow6 hat6 hlt6
                  refine hK.out _ _ (hHeld.grown hgrow6 (by simp) (fun z hz => owns_blockI hown0 hz)) (fun hHeld => ?_)
                  clear hK K hgrow6 hat6 hlt6 hnw
                  try simp only [Act.put, List.setIfInBounds_toArray, List.set_cons_zero, List.set_cons_succ]
                  refine wpAnyH_ready (rs := [13]) (by kernel_rfl) (by simp) ?_
                  refine AllReadyH.cons (o := { dst := some 66, op := Go.Op.call { callee := Go.Callee.builtin Go.Builtin.append, args := #[Go.Operand.tmp 56, Go.Operand.tmp 65], argTypes := #[25, 25] }, type := 25, pos := "ref.go:135", after := #[{ on := 3, ground := Go.Ground.data }, { on := 12, ground := Go.Ground.data }, { on := 12, ground := Go.Ground.chain }], guard := none }) rfl (fun K hK => ?_) AllReadyH.nil
                  refine step_append_grows (by rfl) _ _ 25 (by rfl) 69 n0 _ 9 88 Tryz.underlying25 hi hz0 hz1 hz2 rfl (by decide) (some ⟨g, 0, none⟩) 0 0 (clR (E.take 0)) (by rfl) (fun e => by cases e) (by rw [clR_len, List.length_take]; omega) (fun b hb j9 u hu => by simp [clR] at hu) ⟨g6, 0, none⟩ (1 + E.length) c6 ([.int .i64 x.n, .int .i64 x.k, .int .i64 x.v, .int .i64 x.c, .int .i64 x.d, .int .i64 x.rk, .int .i64 x.up, .int .i64 x.dn, .slice adk x.cv.length cpk] ++ clR (E.drop 0)) (by rfl) hown6.1 (fun j9 u hu => by
                    have hjl : j9 < (1 + E.length) * 9 := by rw [← hown6.1]; exact (List.getElem?_eq_some_iff.1 hu).1
                    rw [Addr.add_lit, Nat.zero_add]; exact (World.ownsRow.cellAt hown6 j9 hjl).trans hu) (by exact clR_one ((x, adk, cpk) :: E.drop 0)) (by omega) (by unfold maxLen; omega) (by omega) ?_
                  intro v7 w7 hown7 hgrow7
                  obtain ⟨g7, c7, rfl, hg7, hl7⟩ := World.ownsRow.form hown7 (by omega)
                  have HO7 := Lib.hid (owns_baseI hown7 (base' := wo.heap.size) (Nat.le_trans hs1 (Nat.le_trans hsW hHeld.size)))
                  refine hK.out _ _ (hHeld.grown hgrow7 hHeld.size (fun z hz => by cases hz)) (fun hHeld => ?_)
                  clear hK K hown7 hgrow7
                  try simp only [Act.put, List.setIfInBounds_toArray, List.set_cons_zero, List.set_cons_succ]
                  refine takeU (i := 14) (some 9) (.slice (some ⟨g7, 0, none⟩) (0 + (1 + E.length)) c7) (by kernel_rfl) (by kernel_rfl) (by kernel_rfl) (by kernel_rfl) (by kernel_rfl) (fun _ => by kernel_rfl) (fun _ _ _ h => h) hHeld ?_
                  refine wpAnyH_done (by kernel_rfl) ?_ _
                  try simp only [Act.put, List.setIfInBounds_toArray, List.set_cons_zero, List.set_cons_succ]
                  have HL7 : Hid (0 + (1 + E.length) = E1.length) := Lib.hid (by have := HE0.out; rw [HN2.out, List.length_append, List.length_cons, List.length_take, List.length_drop]; omega)
                  have HC7 : Hid (clR (E.take 0) ++ ([.int .i64 x.n, .int .i64 x.k, .int .i64 x.v, .int .i64 x.c, .int .i64 x.d, .int .i64 x.rk, .int .i64 x.up, .int .i64 x.dn, .slice adk x.cv.length cpk] ++ clR (E.drop 0)) = clR E1) := Lib.hid (by rw [HN2.out, clR_app]; rfl)
                  have HBF := Lib.hid (HBW.out.1.trans ((hbW.trans (hHeld.mono hsW)).mono hs1))
                  go_wp2_with fail
                  go_roundw
                  case rel => exact ⟨k + 1, by omega, by go_num, ⟨some ⟨g7, 0, none⟩, c7, by rw [HE1.out, ← HL7.out]⟩, Lib.hid (by rw [HE1.out, ← HL7.out, ← HC7.out]; exact HO7.out), HBF.out⟩
                  case measure => first | (simp [intOf]; exact hmeas) | simpa [intOf] using hmeas

            · obtain ⟨i, hi⟩ : ∃ i, j = i + 1 := ⟨j - 1, by omega⟩
              have hij : i < E.length := by omega
              obtain ⟨g, rfl, hg⟩ := HOc.out i hij
              have hom := HOm.out i hij
              have hwi : IntKind.i64.wrap ((j : Int) - 1) = (i : Int) := by rw [show (j : Int) - 1 = (i : Int) by omega]; exact IntWalk.i64_in _ (by omega)
              have HPy : Hid (ahS L dir x E[i]!.1 → plcS L dir x (E.map (·.1)) E.length = plcS L dir x (E.map (·.1)) i) := Lib.hid fun hh => by
                rw [HP.out, hi]; exact plcS_yes (by rw [gs_at _ (by simpa using hij), List.getElem_map, ← getElem!_pos E i hij]; exact hh)
              have HPn : Hid (¬ ahS L dir x E[i]!.1 → plcS L dir x (E.map (·.1)) E.length = j) := Lib.hid fun hh => by
                rw [HP.out, hi]; exact plcS_no (by rw [gs_at _ (by simpa using hij), List.getElem_map, ← getElem!_pos E i hij]; exact hh)
              have HIJ := Lib.hid hi
              have dj : decide ((0 : Int) < (j : Int)) = true := decide_eq_true (by omega)
              have dj2 : decide (0 < j) = true := decide_eq_true (by omega)
              have hjp : (0 : Int) < (j : Int) := by omega
              have hjp2 : 0 < j := by omega
              have hj1 : (i : Int) < (E.length : Int) := by omega
              have hi0 : (0 : Int) ≤ (i : Int) := by omega
              clear hi
              generalize E[i]! = y at *
              have e0 : w1.cell? ⟨g, i * 9, none⟩ = some (.int .i64 y.1.n) := hg 0 (by omega)
              have e1 : w1.cell? ⟨g, i * 9 + 1, none⟩ = some (.int .i64 y.1.k) := hg 1 (by omega)
              have e2 : w1.cell? ⟨g, i * 9 + 2, none⟩ = some (.int .i64 y.1.v) := hg 2 (by omega)
              have e3 : w1.cell? ⟨g, i * 9 + 3, none⟩ = some (.int .i64 y.1.c) := hg 3 (by omega)
              have e4 : w1.cell? ⟨g, i * 9 + 4, none⟩ = some (.int .i64 y.1.d) := hg 4 (by omega)
              have e5 : w1.cell? ⟨g, i * 9 + 5, none⟩ = some (.int .i64 y.1.rk) := hg 5 (by omega)
              have e6 : w1.cell? ⟨g, i * 9 + 6, none⟩ = some (.int .i64 y.1.up) := hg 6 (by omega)
              have e7 : w1.cell? ⟨g, i * 9 + 7, none⟩ = some (.int .i64 y.1.dn) := hg 7 (by omega)
              have e8 : w1.cell? ⟨g, i * 9 + 8, none⟩ = some (.slice y.2.1 y.1.cv.length y.2.2) := hg 8 (by omega)
              have e0 := cell_below e0 hbr
              have e1 := cell_below e1 hbr
              have e2 := cell_below e2 hbr
              have e3 := cell_below e3 hbr
              have e4 := cell_below e4 hbr
              have e5 := cell_below e5 hbr
              have e6 := cell_below e6 hbr
              have e7 := cell_below e7 hbr
              have e8 := cell_below e8 hbr
              have HAh := Lib.hid (fun W => refAhead_r L a n ca dir x y.1 adk y.2.1 cpk y.2.2 HLL.out.1 HLL.out.2 HD.out hom.1 hcx hom.2 W)
              have hzl : w.heap.size < wr.heap.size := block_lt l0
              have hzc : blk < wr.heap.size := block_lt c0
              have hze : g < wr.heap.size := block_lt e0
              clear hg hom
              have Zl0 := Lib.hid l0
              have Zl1 := Lib.hid l1
              have Zc0 := Lib.hid c0
              have Zc1 := Lib.hid c1
              have Zc2 := Lib.hid c2
              have Zc3 := Lib.hid c3
              have Zc4 := Lib.hid c4
              have Zc5 := Lib.hid c5
              have Zc6 := Lib.hid c6
              have Zc7 := Lib.hid c7
              have Zc8 := Lib.hid c8
              have Ze0 := Lib.hid e0
              have Ze1 := Lib.hid e1
              have Ze2 := Lib.hid e2
              have Ze3 := Lib.hid e3
              have Ze4 := Lib.hid e4
              have Ze5 := Lib.hid e5
              have Ze6 := Lib.hid e6
              have Ze7 := Lib.hid e7
              have Ze8 := Lib.hid e8
              have hB : Below wr.heap.size wr wr := Below.refl _ _
              obtain ⟨AH, hAH⟩ : ∃ AH, decide (ahS L dir x y.1) = AH := ⟨_, rfl⟩
              rw [hAH] at HAh
              have HAH := Lib.hid hAH
              clear hAH
              cases AH with
              | true =>
                have HP2 := Lib.hid (HPy.out (of_decide_eq_true HAH.out))
                clear HPy HPn HN HAH HOc HOm HP
                go_wp2_with fail
                go_region_held3 (fun w' => w'.cell? ⟨w.heap.size, 0, none⟩ = some (.int .i64 L) ∧ w'.cell? ⟨w.heap.size, 1, none⟩ = some (.slice a n ca) ∧ w'.cell? ⟨blk, off + k * 9, none⟩ = some (.int .i64 x.n) ∧ w'.cell? ⟨blk, off + k * 9 + 1, none⟩ = some (.int .i64 x.k) ∧ w'.cell? ⟨blk, off + k * 9 + 2, none⟩ = some (.int .i64 x.v) ∧ w'.cell? ⟨blk, off + k * 9 + 3, none⟩ = some (.int .i64 x.c) ∧ w'.cell? ⟨blk, off + k * 9 + 4, none⟩ = some (.int .i64 x.d) ∧ w'.cell? ⟨blk, off + k * 9 + 5, none⟩ = some (.int .i64 x.rk) ∧ w'.cell? ⟨blk, off + k * 9 + 6, none⟩ = some (.int .i64 x.up) ∧ w'.cell? ⟨blk, off + k * 9 + 7, none⟩ = some (.int .i64 x.dn) ∧ w'.cell? ⟨blk, off + k * 9 + 8, none⟩ = some (.slice adk x.cv.length cpk) ∧ w'.cell? ⟨g, i * 9, none⟩ = some (.int .i64 y.1.n) ∧ w'.cell? ⟨g, i * 9 + 1, none⟩ = some (.int .i64 y.1.k) ∧ w'.cell? ⟨g, i * 9 + 2, none⟩ = some (.int .i64 y.1.v) ∧ w'.cell? ⟨g, i * 9 + 3, none⟩ = some (.int .i64 y.1.c) ∧ w'.cell? ⟨g, i * 9 + 4, none⟩ = some (.int .i64 y.1.d) ∧ w'.cell? ⟨g, i * 9 + 5, none⟩ = some (.int .i64 y.1.rk) ∧ w'.cell? ⟨g, i * 9 + 6, none⟩ = some (.int .i64 y.1.up) ∧ w'.cell? ⟨g, i * 9 + 7, none⟩ = some (.int .i64 y.1.dn) ∧ w'.cell? ⟨g, i * 9 + 8, none⟩ = some (.slice y.2.1 y.1.cv.length y.2.2)) (go_keep)
                  (first
                    | (go_at_call 116
                       with_reducible refine Calls.mono (HAh.out _) ?_
                       rintro e w9 ⟨rfl, hb9⟩
                       replace hB : Below wr.heap.size wr w9 := (show Below wr.heap.size wr _ by first | exact hB.drew | exact hB).trans (hb9.mono hB.size)
                       have l0 := (hB.cell (p := ⟨w.heap.size, 0, none⟩) hzl).trans Zl0.out
                       have l1 := (hB.cell (p := ⟨w.heap.size, 1, none⟩) hzl).trans Zl1.out
                       have c0 := (hB.cell (p := ⟨blk, off + k * 9, none⟩) hzc).trans Zc0.out
                       have c1 := (hB.cell (p := ⟨blk, off + k * 9 + 1, none⟩) hzc).trans Zc1.out
                       have c2 := (hB.cell (p := ⟨blk, off + k * 9 + 2, none⟩) hzc).trans Zc2.out
                       have c3 := (hB.cell (p := ⟨blk, off + k * 9 + 3, none⟩) hzc).trans Zc3.out
                       have c4 := (hB.cell (p := ⟨blk, off + k * 9 + 4, none⟩) hzc).trans Zc4.out
                       have c5 := (hB.cell (p := ⟨blk, off + k * 9 + 5, none⟩) hzc).trans Zc5.out
                       have c6 := (hB.cell (p := ⟨blk, off + k * 9 + 6, none⟩) hzc).trans Zc6.out
                       have c7 := (hB.cell (p := ⟨blk, off + k * 9 + 7, none⟩) hzc).trans Zc7.out
                       have c8 := (hB.cell (p := ⟨blk, off + k * 9 + 8, none⟩) hzc).trans Zc8.out
                       have e0 := (hB.cell (p := ⟨g, i * 9, none⟩) hze).trans Ze0.out
                       have e1 := (hB.cell (p := ⟨g, i * 9 + 1, none⟩) hze).trans Ze1.out
                       have e2 := (hB.cell (p := ⟨g, i * 9 + 2, none⟩) hze).trans Ze2.out
                       have e3 := (hB.cell (p := ⟨g, i * 9 + 3, none⟩) hze).trans Ze3.out
                       have e4 := (hB.cell (p := ⟨g, i * 9 + 4, none⟩) hze).trans Ze4.out
                       have e5 := (hB.cell (p := ⟨g, i * 9 + 5, none⟩) hze).trans Ze5.out
                       have e6 := (hB.cell (p := ⟨g, i * 9 + 6, none⟩) hze).trans Ze6.out
                       have e7 := (hB.cell (p := ⟨g, i * 9 + 7, none⟩) hze).trans Ze7.out
                       have e8 := (hB.cell (p := ⟨g, i * 9 + 8, none⟩) hze).trans Ze8.out))

                all_goals
                  go_wp2_with fail
                  go_roundw
                  case rel => exact ⟨i, by omega, by first | go_num | rfl, HP2, hbr.trans (hB.mono hbr.size)⟩
                  case measure => have := HIJ.out; simp [intOf]; omega
              | false =>
                have HN2 := Lib.hid (HN.out j (HPn.out (of_decide_eq_false HAH.out)))
                clear HPy HPn HN HAH HOc HOm HP
                go_wp2_with fail
                go_region_held3 (fun w' => w'.cell? ⟨w.heap.size, 0, none⟩ = some (.int .i64 L) ∧ w'.cell? ⟨w.heap.size, 1, none⟩ = some (.slice a n ca) ∧ w'.cell? ⟨blk, off + k * 9, none⟩ = some (.int .i64 x.n) ∧ w'.cell? ⟨blk, off + k * 9 + 1, none⟩ = some (.int .i64 x.k) ∧ w'.cell? ⟨blk, off + k * 9 + 2, none⟩ = some (.int .i64 x.v) ∧ w'.cell? ⟨blk, off + k * 9 + 3, none⟩ = some (.int .i64 x.c) ∧ w'.cell? ⟨blk, off + k * 9 + 4, none⟩ = some (.int .i64 x.d) ∧ w'.cell? ⟨blk, off + k * 9 + 5, none⟩ = some (.int .i64 x.rk) ∧ w'.cell? ⟨blk, off + k * 9 + 6, none⟩ = some (.int .i64 x.up) ∧ w'.cell? ⟨blk, off + k * 9 + 7, none⟩ = some (.int .i64 x.dn) ∧ w'.cell? ⟨blk, off + k * 9 + 8, none⟩ = some (.slice adk x.cv.length cpk) ∧ w'.cell? ⟨g, i * 9, none⟩ = some (.int .i64 y.1.n) ∧ w'.cell? ⟨g, i * 9 + 1, none⟩ = some (.int .i64 y.1.k) ∧ w'.cell? ⟨g, i * 9 + 2, none⟩ = some (.int .i64 y.1.v) ∧ w'.cell? ⟨g, i * 9 + 3, none⟩ = some (.int .i64 y.1.c) ∧ w'.cell? ⟨g, i * 9 + 4, none⟩ = some (.int .i64 y.1.d) ∧ w'.cell? ⟨g, i * 9 + 5, none⟩ = some (.int .i64 y.1.rk) ∧ w'.cell? ⟨g, i * 9 + 6, none⟩ = some (.int .i64 y.1.up) ∧ w'.cell? ⟨g, i * 9 + 7, none⟩ = some (.int .i64 y.1.dn) ∧ w'.cell? ⟨g, i * 9 + 8, none⟩ = some (.slice y.2.1 y.1.cv.length y.2.2)) (go_keep)
                  (first
                    | (go_at_call 116
                       with_reducible refine Calls.mono (HAh.out _) ?_
                       rintro e w9 ⟨rfl, hb9⟩
                       replace hB : Below wr.heap.size wr w9 := (show Below wr.heap.size wr _ by first | exact hB.drew | exact hB).trans (hb9.mono hB.size)
                       have l0 := (hB.cell (p := ⟨w.heap.size, 0, none⟩) hzl).trans Zl0.out
                       have l1 := (hB.cell (p := ⟨w.heap.size, 1, none⟩) hzl).trans Zl1.out
                       have c0 := (hB.cell (p := ⟨blk, off + k * 9, none⟩) hzc).trans Zc0.out
                       have c1 := (hB.cell (p := ⟨blk, off + k * 9 + 1, none⟩) hzc).trans Zc1.out
                       have c2 := (hB.cell (p := ⟨blk, off + k * 9 + 2, none⟩) hzc).trans Zc2.out
                       have c3 := (hB.cell (p := ⟨blk, off + k * 9 + 3, none⟩) hzc).trans Zc3.out
                       have c4 := (hB.cell (p := ⟨blk, off + k * 9 + 4, none⟩) hzc).trans Zc4.out
                       have c5 := (hB.cell (p := ⟨blk, off + k * 9 + 5, none⟩) hzc).trans Zc5.out
                       have c6 := (hB.cell (p := ⟨blk, off + k * 9 + 6, none⟩) hzc).trans Zc6.out
                       have c7 := (hB.cell (p := ⟨blk, off + k * 9 + 7, none⟩) hzc).trans Zc7.out
                       have c8 := (hB.cell (p := ⟨blk, off + k * 9 + 8, none⟩) hzc).trans Zc8.out
                       have e0 := (hB.cell (p := ⟨g, i * 9, none⟩) hze).trans Ze0.out
                       have e1 := (hB.cell (p := ⟨g, i * 9 + 1, none⟩) hze).trans Ze1.out
                       have e2 := (hB.cell (p := ⟨g, i * 9 + 2, none⟩) hze).trans Ze2.out
                       have e3 := (hB.cell (p := ⟨g, i * 9 + 3, none⟩) hze).trans Ze3.out
                       have e4 := (hB.cell (p := ⟨g, i * 9 + 4, none⟩) hze).trans Ze4.out
                       have e5 := (hB.cell (p := ⟨g, i * 9 + 5, none⟩) hze).trans Ze5.out
                       have e6 := (hB.cell (p := ⟨g, i * 9 + 6, none⟩) hze).trans Ze6.out
                       have e7 := (hB.cell (p := ⟨g, i * 9 + 7, none⟩) hze).trans Ze7.out
                       have e8 := (hB.cell (p := ⟨g, i * 9 + 8, none⟩) hze).trans Ze8.out))

                all_goals
                  go_wp2_with fail
                  obtain ⟨ws, rfl⟩ : ∃ ws : World, ws = w9 := ⟨_, rfl⟩
                  have hbs := hB
                  have hbW := hbr.trans (hbs.mono hbr.size)
                  have HRs := Lib.hid (owns_belowI HRow.out hbW)
                  have hsW := hbW.size
                  have hss := hbs.size
                  have k0 := cell_below Zc0.out hbs
                  have k1 := cell_below Zc1.out hbs
                  have k2 := cell_below Zc2.out hbs
                  have k3 := cell_below Zc3.out hbs
                  have k4 := cell_below Zc4.out hbs
                  have k5 := cell_below Zc5.out hbs
                  have k6 := cell_below Zc6.out hbs
                  have k7 := cell_below Zc7.out hbs
                  have k8 := cell_below Zc8.out hbs
                  have hzk : blk < ws.heap.size := block_lt k0
                  clear hbs
                  have hgz : g < ws.heap.size := by omega
                  have hcc : E.length ≤ cv ∧ cv ≤ 9223372036854775807 := by
                    rcases HRs.out.2 with ⟨h1, h2⟩ | ⟨g2, c2, cur, h1, hg1, hg2, hnc, hcm, _⟩
                    · omega
                    · obtain ⟨rfl, rfl⟩ : g = g2 ∧ cv = c2 := by simpa using h1
                      unfold maxLen at hcm; omega
                  by_cases hE0 : E.length - j = 0
                  · have HE0 := Lib.hid hE0
                    clear hE0
                    refine wp_region_held_drew (S := fun w' => Below ws.heap.size ws w') (by kernel_rfl) ((Below.refl _ _).drew) (fun hHeld => ?_)
                    refine takeU (i := 0) (some 53) (.slice (some ⟨g, 0, none⟩) E.length cv) (by kernel_rfl) (by kernel_rfl) (by kernel_rfl) (by kernel_rfl) (by kernel_rfl) (fun _ => by kernel_rfl) (fun _ _ _ h => h) hHeld ?_
                    refine takeU (i := 1) (some 54) (.int .i64 j) (by kernel_rfl) (by kernel_rfl) (by kernel_rfl) (by kernel_rfl) (by kernel_rfl) (fun _ => by kernel_rfl) (fun _ _ _ h => h) hHeld ?_
                    refine takeU (i := 2) (some 55) (.int .i64 j) (by kernel_rfl) (by kernel_rfl) (by kernel_rfl) (by kernel_rfl) (by kernel_rfl) (fun _ => by kernel_rfl) (fun _ _ _ h => h) hHeld ?_
                    refine wpAnyH_take (i := 3) (oi := { dst := some 56, op := Go.Op.slice 25 (Go.Operand.tmp 53) none (some (Go.Operand.tmp 54)) (some (Go.Operand.tmp 55)), type := 25, pos := "ref.go:135", after := #[{ on := 0, ground := Go.Ground.data }, { on := 1, ground := Go.Ground.data }, { on := 2, ground := Go.Ground.data }], guard := none }) (v := .slice (some ⟨g, 0, none⟩) j j) rfl (by kernel_rfl) (by kernel_rfl) (by kernel_rfl) (fun _ _ _ h => h) (.inl ⟨by kernel_rfl, fun w9 h9 => by
                      clear hHeld h9
                      go_simp <;> (intro hcj; exfalso; omega)⟩) hHeld ?_
                    refine takeU (i := 4) (some 57) (.slice (some ⟨blk, off, none⟩) l.length cl) (by kernel_rfl) (by kernel_rfl) (by kernel_rfl) (by kernel_rfl) (by kernel_rfl) (fun _ => by kernel_rfl) (fun _ _ _ h => h) hHeld ?_
                    refine takeU (i := 5) (some 58) (.int .i64 k) (by kernel_rfl) (by kernel_rfl) (by kernel_rfl) (by kernel_rfl) (by kernel_rfl) (fun _ => by kernel_rfl) (fun _ _ _ h => h) hHeld ?_
                    refine wpAnyH_take (i := 6) (oi := { dst := some 59, op := Go.Op.indexAddr 25 (Go.Operand.tmp 57) (Go.Operand.tmp 58), type := 0, pos := "ref.go:135", after := #[{ on := 4, ground := Go.Ground.data }, { on := 5, ground := Go.Ground.data }], guard := none }) (v := .pointer (some ⟨blk, off + k * 9, none⟩)) rfl (by kernel_rfl) (by kernel_rfl) (by kernel_rfl) (fun _ _ _ h => h) (.inl ⟨by kernel_rfl, fun w9 h9 => by
                      clear hHeld h9
                      go_simp⟩) hHeld ?_
                    refine wpAnyH_take (i := 7) (oi := { dst := some 60, op := Go.Op.load 69 (Go.Operand.tmp 59), type := 69, pos := "ref.go:135", after := #[{ on := 6, ground := Go.Ground.data }], guard := none }) (v := .agg #[.int .i64 x.n, .int .i64 x.k, .int .i64 x.v, .int .i64 x.c, .int .i64 x.d, .int .i64 x.rk, .int .i64 x.up, .int .i64 x.dn, .slice adk x.cv.length cpk]) rfl (by kernel_rfl) (by kernel_rfl) (by kernel_rfl) (fun _ _ _ h => h) (.inl ⟨by kernel_rfl, fun w9 h9 => by
                      clear hHeld
                      have d0 := (h9.cell (p := ⟨blk, off + k * 9, none⟩) hzk).trans k0
                      have d1 := (h9.cell (p := ⟨blk, off + k * 9 + 1, none⟩) hzk).trans k1
                      have d2 := (h9.cell (p := ⟨blk, off + k * 9 + 2, none⟩) hzk).trans k2
                      have d3 := (h9.cell (p := ⟨blk, off + k * 9 + 3, none⟩) hzk).trans k3
                      have d4 := (h9.cell (p := ⟨blk, off + k * 9 + 4, none⟩) hzk).trans k4
                      have d5 := (h9.cell (p := ⟨blk, off + k * 9 + 5, none⟩) hzk).trans k5
                      have d6 := (h9.cell (p := ⟨blk, off + k * 9 + 6, none⟩) hzk).trans k6
                      have d7 := (h9.cell (p := ⟨blk, off + k * 9 + 7, none⟩) hzk).trans k7
                      have d8 := (h9.cell (p := ⟨blk, off + k * 9 + 8, none⟩) hzk).trans k8
                      clear h9
                      go_simp⟩) hHeld ?_
                    refine takeU (i := 9) (some 62) (.slice (some ⟨g, 0, none⟩) E.length cv) (by kernel_rfl) (by kernel_rfl) (by kernel_rfl) (by kernel_rfl) (by kernel_rfl) (fun _ => by kernel_rfl) (fun _ _ _ h => h) hHeld ?_
                    refine takeU (i := 10) (some 63) (.int .i64 j) (by kernel_rfl) (by kernel_rfl) (by kernel_rfl) (by kernel_rfl) (by kernel_rfl) (fun _ => by kernel_rfl) (fun _ _ _ h => h) hHeld ?_
                    refine wpAnyH_take (i := 11) (oi := { dst := some 64, op := Go.Op.slice 25 (Go.Operand.tmp 62) (some (Go.Operand.tmp 63)) none none, type := 25, pos := "ref.go:135", after := #[{ on := 9, ground := Go.Ground.data }, { on := 10, ground := Go.Ground.data }], guard := none }) (v := .slice (if cv = j then some ⟨g, 0, none⟩ else some ⟨g, j * 9, none⟩) (E.length - j) (cv - j)) rfl (by kernel_rfl) (by kernel_rfl) (by kernel_rfl) (fun _ _ _ h => h) (.inl ⟨by kernel_rfl, fun w9 h9 => by
                      clear hHeld h9
                      go_simp <;> (intro hcj; exfalso; omega)⟩) hHeld ?_
                    try simp only [Act.put, List.setIfInBounds_toArray, List.set_cons_zero, List.set_cons_succ]
                    refine wpAnyH_ready (rs := [8]) (by kernel_rfl) (by simp) ?_
                    refine AllReadyH.cons (o := { dst := some 61, op := Go.Op.buildSlice 25 1 #[(0, Go.Operand.tmp 60)], type := 25, pos := "ref.go:135", after := #[{ on := 7, ground := Go.Ground.data }], guard := none }) rfl (fun K hK => ?_) AllReadyH.nil
                    go_simp
                    refine hK.out _ _ (hHeld.alloc (Nat.le_refl _) _) (fun hHeld => ?_)
                    clear hK K
                    try simp only [Act.put, List.setIfInBounds_toArray, List.set_cons_zero, List.set_cons_succ]
                    have hown0 : (ws.drew.alloc (.cells #[.int .i64 x.n, .int .i64 x.k, .int .i64 x.v, .int .i64 x.c, .int .i64 x.d, .int .i64 x.rk, .int .i64 x.up, .int .i64 x.dn, .slice adk x.cv.length cpk] 69)).ownsRow ws.heap.size 69 9 (.slice (some ⟨ws.heap.size, 0, none⟩) 1 1) 1 [.int .i64 x.n, .int .i64 x.k, .int .i64 x.v, .int .i64 x.c, .int .i64 x.d, .int .i64 x.rk, .int .i64 x.up, .int .i64 x.dn, .slice adk x.cv.length cpk] := ⟨rfl, .inr ⟨ws.heap.size, 1, #[.int .i64 x.n, .int .i64 x.k, .int .i64 x.v, .int .i64 x.c, .int .i64 x.d, .int .i64 x.rk, .int .i64 x.up, .int .i64 x.dn, .slice adk x.cv.length cpk], rfl, Nat.le_refl _, heap_alloc_new _ _, Nat.le_refl 1, by decide, rfl, rfl⟩⟩
                    refine wpAnyH_ready (rs := [12]) (by kernel_rfl) (by simp) ?_
                    refine AllReadyH.cons (o := { dst := some 65, op := Go.Op.call { callee := Go.Callee.builtin Go.Builtin.append, args := #[Go.Operand.tmp 61, Go.Operand.tmp 64], argTypes := #[25, 25] }, type := 25, pos := "ref.go:135", after := #[{ on := 8, ground := Go.Ground.data }, { on := 11, ground := Go.Ground.data }], guard := none }) rfl (fun K hK => ?_) AllReadyH.nil
                    refine stepZ (by rfl) _ _ 25 (by rfl) ws.heap.size 69 n0 9 Tryz.underlying25 hi (.slice (some ⟨ws.heap.size, 0, none⟩) 1 1) 1 [.int .i64 x.n, .int .i64 x.k, .int .i64 x.v, .int .i64 x.c, .int .i64 x.d, .int .i64 x.rk, .int .i64 x.up, .int .i64 x.dn, .slice adk x.cv.length cpk] (by rfl) hown0 (if cv = j then some ⟨g, 0, none⟩ else some ⟨g, j * 9, none⟩) (E.length - j) (cv - j) (by rfl) (by have := HE0.out; omega) ?_
                    refine hK.out _ _ hHeld (fun hHeld => ?_)
                    clear hK K
                    try simp only [Act.put, List.setIfInBounds_toArray, List.set_cons_zero, List.set_cons_succ]
                    refine wpAnyH_ready (rs := [13]) (by kernel_rfl) (by simp) ?_
                    refine AllReadyH.cons (o := { dst := some 66, op := Go.Op.call { callee := Go.Callee.builtin Go.Builtin.append, args := #[Go.Operand.tmp 56, Go.Operand.tmp 65], argTypes := #[25, 25] }, type := 25, pos := "ref.go:135", after := #[{ on := 3, ground := Go.Ground.data }, { on := 12, ground := Go.Ground.data }, { on := 12, ground := Go.Ground.chain }], guard := none }) rfl (fun K hK => ?_) AllReadyH.nil
                    refine step_append_grows (by rfl) _ _ 25 (by rfl) 69 n0 _ 9 88 Tryz.underlying25 hi hz0 hz1 hz2 rfl (by decide) (some ⟨g, 0, none⟩) j j (clR (E.take j)) (by rfl) (fun e => by cases e) (by rw [clR_len, List.length_take]; omega) (fun b hb j9 u hu => by
                      cases hb
                      rw [← clR_take, List.getElem?_take] at hu
                      split at hu
                      · rw [Addr.add_lit, Nat.zero_add]
                        exact ((hHeld.cell (p := ⟨g, j9, none⟩) hgz).trans (World.ownsRow.cellAt HRs.out j9 (by omega))).trans hu
                      · cases hu) ⟨ws.heap.size, 0, none⟩ 1 1 [.int .i64 x.n, .int .i64 x.k, .int .i64 x.v, .int .i64 x.c, .int .i64 x.d, .int .i64 x.rk, .int .i64 x.up, .int .i64 x.dn, .slice adk x.cv.length cpk] (by rfl) hown0.1 (fun j9 u hu => by
                      have hjl : j9 < 1 * 9 := by rw [← hown0.1]; exact (List.getElem?_eq_some_iff.1 hu).1
                      rw [Addr.add_lit, Nat.zero_add]; exact (World.ownsRow.cellAt hown0 j9 hjl).trans hu) (by exact clR_one [(x, adk, cpk)]) (by omega) (by unfold maxLen; omega) (by omega) ?_
                    intro v7 w7 hown7 hgrow7
                    obtain ⟨g7, c7, rfl, hg7, hl7⟩ := World.ownsRow.form hown7 (by omega)
                    have HO7 := Lib.hid (owns_baseI hown7 (base' := wo.heap.size) (Nat.le_trans hs1 (Nat.le_trans hsW hHeld.size)))
                    refine hK.out _ _ (hHeld.grown hgrow7 hHeld.size (fun z hz => by cases hz)) (fun hHeld => ?_)
                    clear hK K hown7 hgrow7
                    try simp only [Act.put, List.setIfInBounds_toArray, List.set_cons_zero, List.set_cons_succ]
                    refine takeU (i := 14) (some 9) (.slice (some ⟨g7, 0, none⟩) (j + 1) c7) (by kernel_rfl) (by kernel_rfl) (by kernel_rfl) (by kernel_rfl) (by kernel_rfl) (fun _ => by kernel_rfl) (fun _ _ _ h => h) hHeld ?_
                    refine wpAnyH_done (by kernel_rfl) ?_ _
                    try simp only [Act.put, List.setIfInBounds_toArray, List.set_cons_zero, List.set_cons_succ]
                    have HL7 : Hid (j + 1 = E1.length) := Lib.hid (by have := HE0.out; rw [HN2.out, List.length_append, List.length_cons, List.length_take, List.length_drop]; omega)
                    have HC7 : Hid (clR (E.take j) ++ [.int .i64 x.n, .int .i64 x.k, .int .i64 x.v, .int .i64 x.c, .int .i64 x.d, .int .i64 x.rk, .int .i64 x.up, .int .i64 x.dn, .slice adk x.cv.length cpk] = clR E1) := Lib.hid (by have := HE0.out; rw [HN2.out, clR_app, List.drop_of_length_le (by omega)]; rfl)
                    have HBF := Lib.hid (HBW.out.1.trans ((hbW.trans (hHeld.mono hsW)).mono hs1))
                    go_wp2_with fail
                    go_roundw
                    case rel => exact ⟨k + 1, by omega, by go_num, ⟨some ⟨g7, 0, none⟩, c7, by rw [HE1.out, ← HL7.out]⟩, Lib.hid (by rw [HE1.out, ← HL7.out, ← HC7.out]; exact HO7.out), HBF.out⟩
                    case measure => first | (simp [intOf]; exact hmeas) | simpa [intOf] using hmeas
                  · have hcp : ¬ cv = j := by omega
                    have HE0 := Lib.hid hE0
                    clear hE0
                    refine wp_region_held_drew (S := fun w' => Below ws.heap.size ws w') (by kernel_rfl) ((Below.refl _ _).drew) (fun hHeld => ?_)
                    refine takeU (i := 0) (some 53) (.slice (some ⟨g, 0, none⟩) E.length cv) (by kernel_rfl) (by kernel_rfl) (by kernel_rfl) (by kernel_rfl) (by kernel_rfl) (fun _ => by kernel_rfl) (fun _ _ _ h => h) hHeld ?_
                    refine takeU (i := 1) (some 54) (.int .i64 j) (by kernel_rfl) (by kernel_rfl) (by kernel_rfl) (by kernel_rfl) (by kernel_rfl) (fun _ => by kernel_rfl) (fun _ _ _ h => h) hHeld ?_
                    refine takeU (i := 2) (some 55) (.int .i64 j) (by kernel_rfl) (by kernel_rfl) (by kernel_rfl) (by kernel_rfl) (by kernel_rfl) (fun _ => by kernel_rfl) (fun _ _ _ h => h) hHeld ?_
                    refine wpAnyH_take (i := 3) (oi := { dst := some 56, op := Go.Op.slice 25 (Go.Operand.tmp 53) none (some (Go.Operand.tmp 54)) (some (Go.Operand.tmp 55)), type := 25, pos := "ref.go:135", after := #[{ on := 0, ground := Go.Ground.data }, { on := 1, ground := Go.Ground.data }, { on := 2, ground := Go.Ground.data }], guard := none }) (v := .slice (some ⟨g, 0, none⟩) j j) rfl (by kernel_rfl) (by kernel_rfl) (by kernel_rfl) (fun _ _ _ h => h) (.inl ⟨by kernel_rfl, fun w9 h9 => by
                      clear hHeld h9
                      go_simp <;> (intro hcj; exfalso; omega)⟩) hHeld ?_
                    refine takeU (i := 4) (some 57) (.slice (some ⟨blk, off, none⟩) l.length cl) (by kernel_rfl) (by kernel_rfl) (by kernel_rfl) (by kernel_rfl) (by kernel_rfl) (fun _ => by kernel_rfl) (fun _ _ _ h => h) hHeld ?_
                    refine takeU (i := 5) (some 58) (.int .i64 k) (by kernel_rfl) (by kernel_rfl) (by kernel_rfl) (by kernel_rfl) (by kernel_rfl) (fun _ => by kernel_rfl) (fun _ _ _ h => h) hHeld ?_
                    refine wpAnyH_take (i := 6) (oi := { dst := some 59, op := Go.Op.indexAddr 25 (Go.Operand.tmp 57) (Go.Operand.tmp 58), type := 0, pos := "ref.go:135", after := #[{ on := 4, ground := Go.Ground.data }, { on := 5, ground := Go.Ground.data }], guard := none }) (v := .pointer (some ⟨blk, off + k * 9, none⟩)) rfl (by kernel_rfl) (by kernel_rfl) (by kernel_rfl) (fun _ _ _ h => h) (.inl ⟨by kernel_rfl, fun w9 h9 => by
                      clear hHeld h9
                      go_simp⟩) hHeld ?_
                    refine wpAnyH_take (i := 7) (oi := { dst := some 60, op := Go.Op.load 69 (Go.Operand.tmp 59), type := 69, pos := "ref.go:135", after := #[{ on := 6, ground := Go.Ground.data }], guard := none }) (v := .agg #[.int .i64 x.n, .int .i64 x.k, .int .i64 x.v, .int .i64 x.c, .int .i64 x.d, .int .i64 x.rk, .int .i64 x.up, .int .i64 x.dn, .slice adk x.cv.length cpk]) rfl (by kernel_rfl) (by kernel_rfl) (by kernel_rfl) (fun _ _ _ h => h) (.inl ⟨by kernel_rfl, fun w9 h9 => by
                      clear hHeld
                      have d0 := (h9.cell (p := ⟨blk, off + k * 9, none⟩) hzk).trans k0
                      have d1 := (h9.cell (p := ⟨blk, off + k * 9 + 1, none⟩) hzk).trans k1
                      have d2 := (h9.cell (p := ⟨blk, off + k * 9 + 2, none⟩) hzk).trans k2
                      have d3 := (h9.cell (p := ⟨blk, off + k * 9 + 3, none⟩) hzk).trans k3
                      have d4 := (h9.cell (p := ⟨blk, off + k * 9 + 4, none⟩) hzk).trans k4
                      have d5 := (h9.cell (p := ⟨blk, off + k * 9 + 5, none⟩) hzk).trans k5
                      have d6 := (h9.cell (p := ⟨blk, off + k * 9 + 6, none⟩) hzk).trans k6
                      have d7 := (h9.cell (p := ⟨blk, off + k * 9 + 7, none⟩) hzk).trans k7
                      have d8 := (h9.cell (p := ⟨blk, off + k * 9 + 8, none⟩) hzk).trans k8
                      clear h9
                      go_simp⟩) hHeld ?_
                    refine takeU (i := 9) (some 62) (.slice (some ⟨g, 0, none⟩) E.length cv) (by kernel_rfl) (by kernel_rfl) (by kernel_rfl) (by kernel_rfl) (by kernel_rfl) (fun _ => by kernel_rfl) (fun _ _ _ h => h) hHeld ?_
                    refine takeU (i := 10) (some 63) (.int .i64 j) (by kernel_rfl) (by kernel_rfl) (by kernel_rfl) (by kernel_rfl) (by kernel_rfl) (fun _ => by kernel_rfl) (fun _ _ _ h => h) hHeld ?_
                    refine wpAnyH_take (i := 11) (oi := { dst := some 64, op := Go.Op.slice 25 (Go.Operand.tmp 62) (some (Go.Operand.tmp 63)) none none, type := 25, pos := "ref.go:135", after := #[{ on := 9, ground := Go.Ground.data }, { on := 10, ground := Go.Ground.data }], guard := none }) (v := .slice (some ⟨g, j * 9, none⟩) (E.length - j) (cv - j)) rfl (by kernel_rfl) (by kernel_rfl) (by kernel_rfl) (fun _ _ _ h => h) (.inl ⟨by kernel_rfl, fun w9 h9 => by
                      clear hHeld h9
                      go_simp <;> (intro hcj; exfalso; omega)⟩) hHeld ?_
                    try simp only [Act.put, List.setIfInBounds_toArray, List.set_cons_zero, List.set_cons_succ]
                    refine wpAnyH_ready (rs := [8]) (by kernel_rfl) (by simp) ?_
                    refine AllReadyH.cons (o := { dst := some 61, op := Go.Op.buildSlice 25 1 #[(0, Go.Operand.tmp 60)], type := 25, pos := "ref.go:135", after := #[{ on := 7, ground := Go.Ground.data }], guard := none }) rfl (fun K hK => ?_) AllReadyH.nil
                    go_simp
                    refine hK.out _ _ (hHeld.alloc (Nat.le_refl _) _) (fun hHeld => ?_)
                    clear hK K
                    try simp only [Act.put, List.setIfInBounds_toArray, List.set_cons_zero, List.set_cons_succ]
                    have hown0 : (ws.drew.alloc (.cells #[.int .i64 x.n, .int .i64 x.k, .int .i64 x.v, .int .i64 x.c, .int .i64 x.d, .int .i64 x.rk, .int .i64 x.up, .int .i64 x.dn, .slice adk x.cv.length cpk] 69)).ownsRow ws.heap.size 69 9 (.slice (some ⟨ws.heap.size, 0, none⟩) 1 1) 1 [.int .i64 x.n, .int .i64 x.k, .int .i64 x.v, .int .i64 x.c, .int .i64 x.d, .int .i64 x.rk, .int .i64 x.up, .int .i64 x.dn, .slice adk x.cv.length cpk] := ⟨rfl, .inr ⟨ws.heap.size, 1, #[.int .i64 x.n, .int .i64 x.k, .int .i64 x.v, .int .i64 x.c, .int .i64 x.d, .int .i64 x.rk, .int .i64 x.up, .int .i64 x.dn, .slice adk x.cv.length cpk], rfl, Nat.le_refl _, heap_alloc_new _ _, Nat.le_refl 1, by decide, rfl, rfl⟩⟩
                    refine wpAnyH_ready (rs := [12]) (by kernel_rfl) (by simp) ?_
                    refine AllReadyH.cons (o := { dst := some 65, op := Go.Op.call { callee := Go.Callee.builtin Go.Builtin.append, args := #[Go.Operand.tmp 61, Go.Operand.tmp 64], argTypes := #[25, 25] }, type := 25, pos := "ref.go:135", after := #[{ on := 8, ground := Go.Ground.data }, { on := 11, ground := Go.Ground.data }], guard := none }) rfl (fun K hK => ?_) AllReadyH.nil
                    have hnw : ∀ (j9 : Nat) (u : Value), (clR (E.drop j))[j9]? = some u → (ws.drew.alloc (.cells #[.int .i64 x.n, .int .i64 x.k, .int .i64 x.v, .int .i64 x.c, .int .i64 x.d, .int .i64 x.rk, .int .i64 x.up, .int .i64 x.dn, .slice adk x.cv.length cpk] 69)).cell? ((⟨g, j * 9, none⟩ : Addr).add j9) = some u := fun j9 u hu => by
                      have hjl : j9 < (E.length - j) * 9 := by
                        have := (List.getElem?_eq_some_iff.1 hu).1
                        rw [clR_len, List.length_drop] at this
                        exact this
                      rw [← clR_drop, List.getElem?_drop] at hu
                      rw [Addr.add_lit]
                      refine (hHeld.cell (p := ⟨g, j * 9 + j9, none⟩) hgz).trans ?_
                      have h9 := World.ownsRow.cellAt HRs.out (j * 9 + j9) (by have := HE0.out; omega)
                      skip
                      exact h9.trans hu
                    refine step_append_lies _ (by rfl) _ _ _ (by rfl) ws.heap.size 69 n0 _ 9 88 Tryz.underlying25 hi hz0 hz1 hz2 rfl (by decide) (.slice (some ⟨ws.heap.size, 0, none⟩) 1 1) 1 [.int .i64 x.n, .int .i64 x.k, .int .i64 x.v, .int .i64 x.c, .int .i64 x.d, .int .i64 x.rk, .int .i64 x.up, .int .i64 x.dn, .slice adk x.cv.length cpk] (by rfl) hown0 ⟨g, j * 9, none⟩ (E.length - j) (cv - j) (clR (E.drop j)) (by rfl) (by rw [clR_len, List.length_drop] <;> rfl) hnw (clR_one _) (by have := HE0.out; omega) (by unfold maxLen; omega) (by omega) (by simp) _ rfl ?_
                    intro g6 c6 w6 hown6 hgrow6 hat6 hlt6
                    refine hK.out _ _ (hHeld.grown hgrow6 (by simp) (fun z hz => owns_blockI hown0 hz)) (fun hHeld => ?_)
                    clear hK K hgrow6 hat6 hlt6 hnw
                    try simp only [Act.put, List.setIfInBounds_toArray, List.set_cons_zero, List.set_cons_succ]
                    refine wpAnyH_ready (rs := [13]) (by kernel_rfl) (by simp) ?_
                    refine AllReadyH.cons (o := { dst := some 66, op := Go.Op.call { callee := Go.Callee.builtin Go.Builtin.append, args := #[Go.Operand.tmp 56, Go.Operand.tmp 65], argTypes := #[25, 25] }, type := 25, pos := "ref.go:135", after := #[{ on := 3, ground := Go.Ground.data }, { on := 12, ground := Go.Ground.data }, { on := 12, ground := Go.Ground.chain }], guard := none }) rfl (fun K hK => ?_) AllReadyH.nil
                    refine step_append_grows (by rfl) _ _ 25 (by rfl) 69 n0 _ 9 88 Tryz.underlying25 hi hz0 hz1 hz2 rfl (by decide) (some ⟨g, 0, none⟩) j j (clR (E.take j)) (by rfl) (fun e => by cases e) (by rw [clR_len, List.length_take]; omega) (fun b hb j9 u hu => by
                      cases hb
                      rw [← clR_take, List.getElem?_take] at hu
                      split at hu
                      · rw [Addr.add_lit, Nat.zero_add]
                        exact ((hHeld.cell (p := ⟨g, j9, none⟩) hgz).trans (World.ownsRow.cellAt HRs.out j9 (by omega))).trans hu
                      · cases hu) ⟨g6, 0, none⟩ (1 + (E.length - j)) c6 ([.int .i64 x.n, .int .i64 x.k, .int .i64 x.v, .int .i64 x.c, .int .i64 x.d, .int .i64 x.rk, .int .i64 x.up, .int .i64 x.dn, .slice adk x.cv.length cpk] ++ clR (E.drop j)) (by rfl) hown6.1 (fun j9 u hu => by
                      have hjl : j9 < (1 + (E.length - j)) * 9 := by rw [← hown6.1]; exact (List.getElem?_eq_some_iff.1 hu).1
                      rw [Addr.add_lit, Nat.zero_add]; exact (World.ownsRow.cellAt hown6 j9 hjl).trans hu) (by exact clR_one ((x, adk, cpk) :: E.drop j)) (by omega) (by unfold maxLen; omega) (by omega) ?_
                    intro v7 w7 hown7 hgrow7
                    obtain ⟨g7, c7, rfl, hg7, hl7⟩ := World.ownsRow.form hown7 (by omega)
                    have HO7 := Lib.hid (owns_baseI hown7 (base' := wo.heap.size) (Nat.le_trans hs1 (Nat.le_trans hsW hHeld.size)))
                    refine hK.out _ _ (hHeld.grown hgrow7 hHeld.size (fun z hz => by cases hz)) (fun hHeld => ?_)
                    clear hK K hown7 hgrow7
                    try simp only [Act.put, List.setIfInBounds_toArray, List.set_cons_zero, List.set_cons_succ]
                    refine takeU (i := 14) (some 9) (.slice (some ⟨g7, 0, none⟩) (j + (1 + (E.length - j))) c7) (by kernel_rfl) (by kernel_rfl) (by kernel_rfl) (by kernel_rfl) (by kernel_rfl) (fun _ => by kernel_rfl) (fun _ _ _ h => h) hHeld ?_
                    refine wpAnyH_done (by kernel_rfl) ?_ _
                    try simp only [Act.put, List.setIfInBounds_toArray, List.set_cons_zero, List.set_cons_succ]
                    have HL7 : Hid (j + (1 + (E.length - j)) = E1.length) := Lib.hid (by have := HE0.out; rw [HN2.out, List.length_append, List.length_cons, List.length_take, List.length_drop]; omega)
                    have HC7 : Hid (clR (E.take j) ++ ([.int .i64 x.n, .int .i64 x.k, .int .i64 x.v, .int .i64 x.c, .int .i64 x.d, .int .i64 x.rk, .int .i64 x.up, .int .i64 x.dn, .slice adk x.cv.length cpk] ++ clR (E.drop j)) = clR E1) := Lib.hid (by rw [HN2.out, clR_app]; rfl)
                    have HBF := Lib.hid (HBW.out.1.trans ((hbW.trans (hHeld.mono hsW)).mono hs1))
                    go_wp2_with fail
                    go_roundw
                    case rel => exact ⟨k + 1, by omega, by go_num, ⟨some ⟨g7, 0, none⟩, c7, by rw [HE1.out, ← HL7.out]⟩, Lib.hid (by rw [HE1.out, ← HL7.out, ← HC7.out]; exact HO7.out), HBF.out⟩
                    case measure => first | (simp [intOf]; exact hmeas) | simpa [intOf] using hmeas

      · have d1 : (x.d != dir) = true := by simp [hd]
        have HN := Lib.hid (HSkip.out (by rw [HSel.out]; simp [hd]))
        clear HSel HStep HSkip HOm hd HSpk
        go_wp2_with fail
        go_roundw
        case rel => exact ⟨k + 1, by omega, by go_num, ⟨av, cv, by rw [HE1.out, HN.out]⟩, Lib.hid (by rw [HE1.out, HN.out]; exact HRow.out), hbr⟩
        case measure => first | (simp [intOf]; exact hmeas) | simpa [intOf] using hmeas
    · obtain rfl : k = l.length := by omega
      have hEl := insE_len L dir h l ad cp l.length
      have HEnd : Hid (RrwE L dir h l w (.returned (.slice av (insE L dir h l ad cp l.length).length cv)) wr) := Lib.hid (by
        have hm := insE_map L dir h l ad cp l.length
        refine ⟨av, cv, by rw [← hm, List.length_map], ?_, hbw⟩
        rw [← hm]
        refine ownR HRow.out (by omega) fun i hi => ?_
        obtain ⟨j, hj, e, _⟩ := insE_mem (List.getElem_mem hi)
        rw [getElem!_pos _ i hi, e]
        exact (HC.out j hj).2.2.below hbw)
      clear HRow HC HL HCb HSp
      go_wp2_with fail
      go_ret
      exact HEnd.out
end Go.Proofs.YtlpdjinhkmgbgaaGreatDoor

namespace Go.Proofs.YtlpdjinhkmgbgaaGreatDoor
set_option linter.unusedVariables false
set_option linter.unusedSimpArgs false
open Go.RowKit

set_option maxRecDepth 100000 in
set_option maxHeartbeats 2000000 in
theorem refValidSigns_r (L : Int) (a : Option Addr) (js : List Int) (ca : Nat) (aa : Option Addr) (l : List Sgn) (cl : Nat) (w : World) (hI : IntsS w a js) (hA : SgnS w aa l) :
    Calls Tryz.prog 34 #[.agg #[.int .i64 L, .slice a js.length ca], .slice aa l.length cl] w fun e w' => e = .returned (.bool (sgnsB L js l)) ∧ Below w.heap.size w w' := by
  have HV := Lib.hid (fun W (hW : Below w.heap.size w W) => refValidLine_r L a js ca W (hI.below hW))
  have hlen := hA.1
  cases h0 : lineB L js with
  | false =>
    rw [s_bad0 h0]
    rw [h0] at HV
    clear hI hA h0
    go_enter Tryz.func34, Tryz.ntmps34
    go_wp2_with fail
    obtain ⟨wB, hwB⟩ : ∃ wB, w.alloc (.cells #[.int .i64 L, .slice a js.length ca] 24) = wB := ⟨_, rfl⟩
    have hb : Below w.heap.size w wB := by rw [← hwB]; exact (Below.refl _ _).alloc (Nat.le_refl _) _
    have p0 : wB.cell? ⟨w.heap.size, 0, none⟩ = some (.int .i64 L) := by rw [← hwB]; simp [go_sem]
    have p1 : wB.cell? ⟨w.heap.size, 1, none⟩ = some (.slice a js.length ca) := by rw [← hwB]; simp [go_sem]
    rw [hwB]
    clear hwB
    go_wp2_with (go_at_call 26; refine (HV.out _ hb).mono ?_; rintro e w1 ⟨rfl, hb1⟩)
    go_ret
    exact ⟨rfl, hb.trans (hb1.mono hb.size)⟩
  | true =>
    rw [h0] at HV
    by_cases h9 : 100 < l.length
    · rw [s_bad9 h9]
      have h9i : (100 : Int) < (l.length : Int) := by omega
      clear hI hA h0
      go_enter Tryz.func34, Tryz.ntmps34
      go_wp2_with fail
      obtain ⟨wB, hwB⟩ : ∃ wB, w.alloc (.cells #[.int .i64 L, .slice a js.length ca] 24) = wB := ⟨_, rfl⟩
      have hb : Below w.heap.size w wB := by rw [← hwB]; exact (Below.refl _ _).alloc (Nat.le_refl _) _
      have p0 : wB.cell? ⟨w.heap.size, 0, none⟩ = some (.int .i64 L) := by rw [← hwB]; simp [go_sem]
      have p1 : wB.cell? ⟨w.heap.size, 1, none⟩ = some (.slice a js.length ca) := by rw [← hwB]; simp [go_sem]
      rw [hwB]
      clear hwB
      go_wp2_with (go_at_call 26; refine (HV.out _ hb).mono ?_; rintro e w1 ⟨rfl, hb1⟩)
      go_ret
      exact ⟨rfl, hb.trans (hb1.mono hb.size)⟩
    · have h9i : ¬ (100 : Int) < (l.length : Int) := by omega
      have HB1 : Hid (∀ k, k < l.length → btw (gs l k).n 1 1000000000 = false → sgnsB L js l = false) := Lib.hid fun k hk h => s_bad1 hk h
      have HB2 : Hid (∀ k, k < l.length → sgnB L (gs l k) = false → sgnsB L js l = false) := Lib.hid fun k hk h => s_bad2 hk h
      have HB3 : Hid (∀ k j, k < l.length → j < k → (gs l j).n = (gs l k).n → sgnsB L js l = false) := Lib.hid fun k j hk hj h => s_bad3 hk hj h
      have HE : Hid ((∀ k, k < l.length → sRt L l k) → sgnsB L js l = true) := Lib.hid fun h => s_end h0 (by omega) h
      obtain ⟨-, blk, off, ad, cp, hadr, hc⟩ := hA
      have HC := Lib.hid hc
      have HL : Hid (0 < l.length → aa = some ⟨blk, off, none⟩) := Lib.hid fun h => hadr (List.ne_nil_of_length_pos h)
      clear hI h0 hc hadr
      go_enter Tryz.func34, Tryz.ntmps34
      go_wp2_with fail
      obtain ⟨wB, hwB⟩ : ∃ wB, w.alloc (.cells #[.int .i64 L, .slice a js.length ca] 24) = wB := ⟨_, rfl⟩
      have hb : Below w.heap.size w wB := by rw [← hwB]; exact (Below.refl _ _).alloc (Nat.le_refl _) _
      have p0 : wB.cell? ⟨w.heap.size, 0, none⟩ = some (.int .i64 L) := by rw [← hwB]; simp [go_sem]
      have p1 : wB.cell? ⟨w.heap.size, 1, none⟩ = some (.slice a js.length ca) := by rw [← hwB]; simp [go_sem]
      rw [hwB]
      clear hwB
      go_wp2_with (go_at_call 26; refine (HV.out _ hb).mono ?_; rintro e w1 ⟨rfl, hb1⟩; have hbw := hb.trans (hb1.mono hb.size); replace p0 := cell_below p0 hb1; clear p1)
      clear HV hb1
      go_loopw [5] (fun i wr => ∃ k : Nat, k ≤ l.length ∧ i = .int .i64 k ∧ Hid (∀ j, j < k → sRt L l j) ∧ Below w1.heap.size w1 wr) (fun i _ => l.length - (intOf i).toNat)
      case atStart => exact ⟨0, Nat.zero_le _, rfl, Lib.hid fun j hj => absurd hj (Nat.not_lt_zero _), Below.refl _ _⟩
      case round =>
        obtain ⟨k, hk, rfl, HN, hbr⟩ := hrel
        have p0 := cell_below p0 hbr
        have hz : w.heap.size < wr.heap.size := block_lt p0
        by_cases hlt : k < l.length
        · obtain rfl := HL.out (by omega)
          obtain ⟨⟨c0, c1, c2, c3, c4, c5, c6, c7⟩, c8, hpr⟩ := HC.out k hlt
          have hbo := hbw.trans (hbr.mono hbw.size)
          have c0 := cell_below c0 hbo
          have c1 := cell_below c1 hbo
          have c2 := cell_below c2 hbo
          have c3 := cell_below c3 hbo
          have c4 := cell_below c4 hbo
          have c5 := cell_below c5 hbo
          have c6 := cell_below c6 hbo
          have c7 := cell_below c7 hbo
          have c8 := cell_below c8 hbo
          have HPr := Lib.hid (hpr.below hbo)
          clear hpr
          have hkl : (k : Int) < (l.length : Int) := by omega
          have hmeas : l.length - (k + 1) < l.length - k := by omega
          have HB1k := Lib.hid (HB1.out k hlt)
          have HB2k := Lib.hid (HB2.out k hlt)
          have HB3k := Lib.hid (fun j hj => HB3.out k j hlt hj)
          have HS : Hid (sRt L l k → ∀ j, j < k + 1 → sRt L l j) := Lib.hid fun h j hj => by
            by_cases e : j = k
            · subst e; exact h
            · exact HN.out j (by omega)
          have HRt : Hid (sRt L l k = (btw (gs l k).n 1 1000000000 = true ∧ sgnB L (gs l k) = true ∧ ∀ j, j < k → (gs l j).n ≠ (gs l k).n)) := Lib.hid rfl
          have HCj : Hid (∀ j, j < k → wr.cell? ⟨blk, off + j * 9, none⟩ = some (.int .i64 (gs l j).n)) := Lib.hid fun j hj => cell_below (HC.out j (by omega)).1.1 hbo
          clear HC HL HE HB1 HB2 HB3 HN
          generalize ad k = adk at *
          generalize cp k = cpk at *
          obtain ⟨x, hx⟩ : ∃ x, gs l k = x := ⟨_, rfl⟩
          rw [hx] at HB1k HB2k HB3k HRt c0 c1 c2 c3 c4 c5 c6 c7 c8 HPr
          clear hx
          generalize sRt L l k = RT at *
          obtain ⟨s, hs⟩ : ∃ s, sgnsB L js l = s := ⟨_, rfl⟩
          rw [hs] at HB1k HB2k HB3k
          have HSE := Lib.hid hs
          clear hs
          have Q0 : Hid (∀ W, Calls Tryz.prog 67 #[.int .i64 x.n, .int .i64 1, .int .i64 1000000000] W fun e w7 => e = .returned (.bool (btw x.n 1 1000000000)) ∧ W = w7) := Lib.hid fun W => refWithin_r 1 1000000000 x.n W
          have Q1 : Hid (∀ W, Calls Tryz.prog 77 #[.int .i64 x.k, .int .i64 x.v] W fun e w7 => e = .returned (.bool (valB x.k x.v)) ∧ W = w7) := Lib.hid fun W => refValue_r x.k x.v W
          have Q2 : Hid (∀ W, Calls Tryz.prog 67 #[.int .i64 x.c, .int .i64 0, .int .i64 L] W fun e w7 => e = .returned (.bool (btw x.c 0 L)) ∧ W = w7) := Lib.hid fun W => refWithin_r 0 L x.c W
          have Q3 : Hid (∀ W, Calls Tryz.prog 78 #[.int .i64 x.d] W fun e w7 => e = .returned (.bool (dirB x.d)) ∧ W = w7) := Lib.hid fun W => refDir_r x.d W
          have Q4 : Hid (∀ W, Calls Tryz.prog 67 #[.int .i64 x.rk, .int .i64 1, .int .i64 9] W fun e w7 => e = .returned (.bool (btw x.rk 1 9)) ∧ W = w7) := Lib.hid fun W => refWithin_r 1 9 x.rk W
          have Q5 : Hid (∀ W, Calls Tryz.prog 79 #[.int .i64 x.up, .int .i64 x.dn] W fun e w7 => e = .returned (.bool (timeB x.up x.dn)) ∧ W = w7) := Lib.hid fun W => refHours_r x.up x.dn W
          have HSEo := Lib.hid HSE.out
          cases g0 : btw x.n 1 1000000000 with
          | false =>
            have hr : s = false := HB1k.out g0
            rw [g0] at Q0
            subst hr
            clear HB1k HB2k HB3k HS HRt HCj HPr HSE g0
            go_wp2_with (first | (go_at_call 67; with_reducible refine Calls.mono (Q0.out _) ?_; rintro e w7 ⟨rfl, rfl⟩) | (go_at_call 77; with_reducible refine Calls.mono (Q1.out _) ?_; rintro e w7 ⟨rfl, rfl⟩) | (go_at_call 67; with_reducible refine Calls.mono (Q2.out _) ?_; rintro e w7 ⟨rfl, rfl⟩) | (go_at_call 78; with_reducible refine Calls.mono (Q3.out _) ?_; rintro e w7 ⟨rfl, rfl⟩) | (go_at_call 67; with_reducible refine Calls.mono (Q4.out _) ?_; rintro e w7 ⟨rfl, rfl⟩) | (go_at_call 79; with_reducible refine Calls.mono (Q5.out _) ?_; rintro e w7 ⟨rfl, rfl⟩))
            go_ret
            exact ⟨by rw [HSEo.out] <;> rfl, hbo.alloc hbo.size _⟩
          | true =>
            rw [g0] at Q0
            cases g1 : valB x.k x.v with
            | false =>
              have hr : s = false := HB2k.out (by unfold sgnB; rw [g1]; simp)
              rw [g1] at Q1
              subst hr
              clear HB1k HB2k HB3k HS HRt HCj HPr HSE g0 g1
              go_wp2_with (first | (go_at_call 67; with_reducible refine Calls.mono (Q0.out _) ?_; rintro e w7 ⟨rfl, rfl⟩) | (go_at_call 77; with_reducible refine Calls.mono (Q1.out _) ?_; rintro e w7 ⟨rfl, rfl⟩) | (go_at_call 67; with_reducible refine Calls.mono (Q2.out _) ?_; rintro e w7 ⟨rfl, rfl⟩) | (go_at_call 78; with_reducible refine Calls.mono (Q3.out _) ?_; rintro e w7 ⟨rfl, rfl⟩) | (go_at_call 67; with_reducible refine Calls.mono (Q4.out _) ?_; rintro e w7 ⟨rfl, rfl⟩) | (go_at_call 79; with_reducible refine Calls.mono (Q5.out _) ?_; rintro e w7 ⟨rfl, rfl⟩))
              go_ret
              exact ⟨by rw [HSEo.out] <;> rfl, hbo.alloc hbo.size _⟩
            | true =>
              rw [g1] at Q1
              cases g2 : btw x.c 0 L with
              | false =>
                have hr : s = false := HB2k.out (by unfold sgnB; rw [g2]; simp)
                rw [g2] at Q2
                subst hr
                clear HB1k HB2k HB3k HS HRt HCj HPr HSE g0 g1 g2
                go_wp2_with (first | (go_at_call 67; with_reducible refine Calls.mono (Q0.out _) ?_; rintro e w7 ⟨rfl, rfl⟩) | (go_at_call 77; with_reducible refine Calls.mono (Q1.out _) ?_; rintro e w7 ⟨rfl, rfl⟩) | (go_at_call 67; with_reducible refine Calls.mono (Q2.out _) ?_; rintro e w7 ⟨rfl, rfl⟩) | (go_at_call 78; with_reducible refine Calls.mono (Q3.out _) ?_; rintro e w7 ⟨rfl, rfl⟩) | (go_at_call 67; with_reducible refine Calls.mono (Q4.out _) ?_; rintro e w7 ⟨rfl, rfl⟩) | (go_at_call 79; with_reducible refine Calls.mono (Q5.out _) ?_; rintro e w7 ⟨rfl, rfl⟩))
                go_ret
                exact ⟨by rw [HSEo.out] <;> rfl, hbo.alloc hbo.size _⟩
              | true =>
                rw [g2] at Q2
                cases g3 : dirB x.d with
                | false =>
                  have hr : s = false := HB2k.out (by unfold sgnB; rw [g3]; simp)
                  rw [g3] at Q3
                  subst hr
                  clear HB1k HB2k HB3k HS HRt HCj HPr HSE g0 g1 g2 g3
                  go_wp2_with (first | (go_at_call 67; with_reducible refine Calls.mono (Q0.out _) ?_; rintro e w7 ⟨rfl, rfl⟩) | (go_at_call 77; with_reducible refine Calls.mono (Q1.out _) ?_; rintro e w7 ⟨rfl, rfl⟩) | (go_at_call 67; with_reducible refine Calls.mono (Q2.out _) ?_; rintro e w7 ⟨rfl, rfl⟩) | (go_at_call 78; with_reducible refine Calls.mono (Q3.out _) ?_; rintro e w7 ⟨rfl, rfl⟩) | (go_at_call 67; with_reducible refine Calls.mono (Q4.out _) ?_; rintro e w7 ⟨rfl, rfl⟩) | (go_at_call 79; with_reducible refine Calls.mono (Q5.out _) ?_; rintro e w7 ⟨rfl, rfl⟩))
                  go_ret
                  exact ⟨by rw [HSEo.out] <;> rfl, hbo.alloc hbo.size _⟩
                | true =>
                  rw [g3] at Q3
                  cases g4 : btw x.rk 1 9 with
                  | false =>
                    have hr : s = false := HB2k.out (by unfold sgnB; rw [g4]; simp)
                    rw [g4] at Q4
                    subst hr
                    clear HB1k HB2k HB3k HS HRt HCj HPr HSE g0 g1 g2 g3 g4
                    go_wp2_with (first | (go_at_call 67; with_reducible refine Calls.mono (Q0.out _) ?_; rintro e w7 ⟨rfl, rfl⟩) | (go_at_call 77; with_reducible refine Calls.mono (Q1.out _) ?_; rintro e w7 ⟨rfl, rfl⟩) | (go_at_call 67; with_reducible refine Calls.mono (Q2.out _) ?_; rintro e w7 ⟨rfl, rfl⟩) | (go_at_call 78; with_reducible refine Calls.mono (Q3.out _) ?_; rintro e w7 ⟨rfl, rfl⟩) | (go_at_call 67; with_reducible refine Calls.mono (Q4.out _) ?_; rintro e w7 ⟨rfl, rfl⟩) | (go_at_call 79; with_reducible refine Calls.mono (Q5.out _) ?_; rintro e w7 ⟨rfl, rfl⟩))
                    go_ret
                    exact ⟨by rw [HSEo.out] <;> rfl, hbo.alloc hbo.size _⟩
                  | true =>
                    rw [g4] at Q4
                    cases g5 : timeB x.up x.dn with
                    | false =>
                      have hr : s = false := HB2k.out (by unfold sgnB; rw [g5]; simp)
                      rw [g5] at Q5
                      subst hr
                      clear HB1k HB2k HB3k HS HRt HCj HPr HSE g0 g1 g2 g3 g4 g5
                      go_wp2_with (first | (go_at_call 67; with_reducible refine Calls.mono (Q0.out _) ?_; rintro e w7 ⟨rfl, rfl⟩) | (go_at_call 77; with_reducible refine Calls.mono (Q1.out _) ?_; rintro e w7 ⟨rfl, rfl⟩) | (go_at_call 67; with_reducible refine Calls.mono (Q2.out _) ?_; rintro e w7 ⟨rfl, rfl⟩) | (go_at_call 78; with_reducible refine Calls.mono (Q3.out _) ?_; rintro e w7 ⟨rfl, rfl⟩) | (go_at_call 67; with_reducible refine Calls.mono (Q4.out _) ?_; rintro e w7 ⟨rfl, rfl⟩) | (go_at_call 79; with_reducible refine Calls.mono (Q5.out _) ?_; rintro e w7 ⟨rfl, rfl⟩))
                      go_ret
                      exact ⟨by rw [HSEo.out] <;> rfl, hbo.alloc hbo.size _⟩
                    | true =>
                      rw [g5] at Q5
                      have hup : ¬ (10000000 : Int) < x.up := by
                        have h := g5
                        simp only [timeB, Bool.and_eq_true, decide_eq_true_eq] at h
                        omega
                      by_cases h10 : 10 < x.cv.length
                      · have hr : s = false := HB2k.out (by unfold sgnB; rw [decide_eq_false (by omega : ¬ x.cv.length ≤ 10)]; simp)
                        have h10i : (10 : Int) < (x.cv.length : Int) := by omega
                        subst hr
                        clear HB1k HB2k HB3k HS HRt HCj HPr HSE g0 g1 g2 g3 g4 g5
                        go_wp2_with (first | (go_at_call 67; with_reducible refine Calls.mono (Q0.out _) ?_; rintro e w7 ⟨rfl, rfl⟩) | (go_at_call 77; with_reducible refine Calls.mono (Q1.out _) ?_; rintro e w7 ⟨rfl, rfl⟩) | (go_at_call 67; with_reducible refine Calls.mono (Q2.out _) ?_; rintro e w7 ⟨rfl, rfl⟩) | (go_at_call 78; with_reducible refine Calls.mono (Q3.out _) ?_; rintro e w7 ⟨rfl, rfl⟩) | (go_at_call 67; with_reducible refine Calls.mono (Q4.out _) ?_; rintro e w7 ⟨rfl, rfl⟩) | (go_at_call 79; with_reducible refine Calls.mono (Q5.out _) ?_; rintro e w7 ⟨rfl, rfl⟩))
                        go_ret
                        exact ⟨by rw [HSEo.out] <;> rfl, hbo.alloc hbo.size _⟩
                      · have h10i : ¬ (10 : Int) < (x.cv.length : Int) := by omega
                        have HSg : Hid (covB x.cv = true → sgnB L x = true) := Lib.hid fun h => by unfold sgnB; rw [g1, g2, g3, g4, g5, h, decide_eq_true (by omega : x.cv.length ≤ 10)]; rfl
                        have HSb : Hid (covB x.cv = false → s = false) := Lib.hid fun h => HB2k.out (by unfold sgnB; rw [h]; simp)
                        have HRt2 : Hid (covB x.cv = true → (∀ j, j < k → (gs l j).n ≠ x.n) → RT) := Lib.hid fun h1 h2 => by rw [HRt.out]; exact ⟨g0, HSg.out h1, h2⟩
                        have HSbox : Hid (Below w.heap.size w (wr.alloc (.cells #[.int .i64 x.n, .int .i64 x.k, .int .i64 x.v, .int .i64 x.c, .int .i64 x.d, .int .i64 x.rk, .int .i64 x.up, .int .i64 x.dn, .slice adk x.cv.length cpk] 69))) := Lib.hid (hbo.alloc hbo.size _)
                        clear HB1k HB2k HRt HSg HSE g0 g1 g2 g3 g4 g5
                        go_wp2_with (first | (go_at_call 67; with_reducible refine Calls.mono (Q0.out _) ?_; rintro e w7 ⟨rfl, rfl⟩) | (go_at_call 77; with_reducible refine Calls.mono (Q1.out _) ?_; rintro e w7 ⟨rfl, rfl⟩) | (go_at_call 67; with_reducible refine Calls.mono (Q2.out _) ?_; rintro e w7 ⟨rfl, rfl⟩) | (go_at_call 78; with_reducible refine Calls.mono (Q3.out _) ?_; rintro e w7 ⟨rfl, rfl⟩) | (go_at_call 67; with_reducible refine Calls.mono (Q4.out _) ?_; rintro e w7 ⟨rfl, rfl⟩) | (go_at_call 79; with_reducible refine Calls.mono (Q5.out _) ?_; rintro e w7 ⟨rfl, rfl⟩))
                        clear Q0 Q1 Q2 Q3 Q4 Q5
                        obtain ⟨wS, hwS⟩ : ∃ wS, wr.alloc (.cells #[.int .i64 x.n, .int .i64 x.k, .int .i64 x.v, .int .i64 x.c, .int .i64 x.d, .int .i64 x.rk, .int .i64 x.up, .int .i64 x.dn, .slice adk x.cv.length cpk] 69) = wS := ⟨_, rfl⟩
                        rw [hwS] at HSbox
                        have hbS0 : Below wr.heap.size wr wS := by rw [← hwS]; exact (Below.refl _ _).alloc (Nat.le_refl _) _
                        have x0 : wS.cell? ⟨wr.heap.size, 0, none⟩ = some (.int .i64 x.n) := by rw [← hwS]; simp [go_sem]
                        have x8 : wS.cell? ⟨wr.heap.size, 8, none⟩ = some (.slice adk x.cv.length cpk) := by rw [← hwS]; simp [go_sem]
                        rw [hwS]
                        clear hwS
                        have HCj : Hid (∀ j, j < k → wS.cell? ⟨blk, off + j * 9, none⟩ = some (.int .i64 (gs l j).n)) := Lib.hid fun j hj => cell_below (HCj.out j hj) hbS0
                        have HPr := Lib.hid (HPr.out.below hbS0)
                        have hbS := hbr.trans (hbS0.mono hbr.size)
                        have hsS := hbS0.size
                        have HBS := Lib.hid hbS
                        obtain ⟨rb, hrb⟩ : ∃ rb, wr.heap.size = rb := ⟨_, rfl⟩
                        rw [hrb] at x0 x8 ⊢
                        clear c0 c1 c2 c3 c4 c5 c6 c7 c8 hbr hbo hbS0 hbS hsS hrb p0 hz
                        obtain ⟨-, -, pb, po, hpa, hpc⟩ := HPr.out
                        have HPA : Hid (0 < x.cv.length → adk = some ⟨pb, po, none⟩) := Lib.hid fun h => hpa (List.ne_nil_of_length_pos h)
                        have HPC := Lib.hid hpc
                        clear hpa hpc
                        go_loopw [7] (fun i wr => ∃ j : Nat, j ≤ x.cv.length ∧ i = .int .i64 j ∧ Hid (∀ i, i < j → timeB (gp x.cv i).1 (gp x.cv i).2 = true) ∧ Below wS.heap.size wS wr) (fun i _ => x.cv.length - (intOf i).toNat)
                        case atStart => exact ⟨0, Nat.zero_le _, rfl, Lib.hid fun j hj => absurd hj (Nat.not_lt_zero _), Below.refl _ _⟩
                        case round =>
                          obtain ⟨j, hj, rfl, HJ, hbr⟩ := hrel
                          have x0 := cell_below x0 hbr
                          have x8 := cell_below x8 hbr
                          by_cases hjl : j < x.cv.length
                          · obtain rfl := HPA.out (by omega)
                            obtain ⟨q0, q1⟩ := HPC.out j hjl
                            have q0 := cell_below q0 hbr
                            have q1 := cell_below q1 hbr
                            have hji : (j : Int) < (x.cv.length : Int) := by omega
                            have hmeas2 : x.cv.length - (j + 1) < x.cv.length - j := by omega
                            have HJ2 : Hid (timeB (gp x.cv j).1 (gp x.cv j).2 = true → ∀ i, i < j + 1 → timeB (gp x.cv i).1 (gp x.cv i).2 = true) := Lib.hid fun h i hi => by
                              by_cases e : i = j
                              · subst e; exact h
                              · exact HJ.out i (by omega)
                            have HCv : Hid (timeB (gp x.cv j).1 (gp x.cv j).2 = false → covB x.cv = false) := Lib.hid fun h => by unfold covB; rw [anyK_true (j := j) (by simp [h]) _ hjl]; rfl
                            have hbz : Below w.heap.size w wr := HSbox.out.trans (hbr.mono HSbox.out.size)
                            clear HJ HPC HPA
                            generalize (gp x.cv j).1 = y0 at *
                            generalize (gp x.cv j).2 = y1 at *
                            cases gt : timeB y0 y1 with
                            | false =>
                              have QH : Hid (∀ W, Calls Tryz.prog 79 #[.int .i64 y0, .int .i64 y1] W fun e w7 => e = .returned (.bool false) ∧ W = w7) := Lib.hid fun W => by have := refHours_r y0 y1 W; rwa [gt] at this
                              have hr := HSb.out (HCv.out gt)
                              subst hr
                              clear HJ2 HCv gt HSb HRt2
                              go_wp2_with fail
                              go_quiet ((go_at_call 79; exact Calls.quiet_of_same ((QH.out _).mono fun e w7 h => ⟨h.1, h.2.symm⟩)))
                              go_wp2_with fail
                              go_ret
                              exact ⟨by rw [HSEo.out] <;> rfl, below_drewN hbz _⟩
                            | true =>
                              have QH : Hid (∀ W, Calls Tryz.prog 79 #[.int .i64 y0, .int .i64 y1] W fun e w7 => e = .returned (.bool true) ∧ W = w7) := Lib.hid fun W => by have := refHours_r y0 y1 W; rwa [gt] at this
                              have HJ3 := Lib.hid (HJ2.out gt)
                              clear HJ2 HCv gt HSb HRt2
                              go_wp2_with fail
                              go_quiet ((go_at_call 79; exact Calls.quiet_of_same ((QH.out _).mono fun e w7 h => ⟨h.1, h.2.symm⟩)))
                              go_wp2_with fail
                              go_roundw
                              case rel => exact ⟨j + 1, by omega, by go_num, HJ3, below_drewN hbr _⟩
                              case measure => first | (simp [intOf]; exact hmeas2) | simpa [intOf] using hmeas2
                          · obtain rfl : j = x.cv.length := by omega
                            have hcv : covB x.cv = true := by unfold covB; rw [(anyK_iff _).2 (fun i hi => by simp [HJ.out i hi])]; rfl
                            have HRt3 := Lib.hid (HRt2.out hcv)
                            have hbz : Below w.heap.size w wr := HSbox.out.trans (hbr.mono HSbox.out.size)
                            have HCj := Lib.hid (fun j hj => cell_below (HCj.out j hj) hbr)
                            have HBZ := Lib.hid (HBS.out.trans (hbr.mono HBS.out.size))
                            clear hcv HRt2 HJ HPC HPA HSb HBS hbr HPr HSbox
                            go_wp2_with fail
                            obtain ⟨wo, rfl⟩ : ∃ wo : World, wo = wr := ⟨_, rfl⟩
                            go_loopw [8] (fun i wr => ∃ j : Nat, j ≤ k ∧ i = .int .i64 j ∧ Hid (∀ i, i < j → (gs l i).n ≠ x.n) ∧ Below wo.heap.size wo wr) (fun i _ => k - (intOf i).toNat)
                            case atStart => exact ⟨0, Nat.zero_le _, rfl, Lib.hid fun j hj => absurd hj (Nat.not_lt_zero _), Below.refl _ _⟩
                            case round =>
                        obtain ⟨j, hj, rfl, HJ, hbr⟩ := hrel
                        have x0 := cell_below x0 hbr
                        by_cases hjk : j < k
                        · have q0 := cell_below (HCj.out j hjk) hbr
                          have hji : (j : Int) < (k : Int) := by omega
                          have hjl : (j : Int) < (l.length : Int) := by omega
                          have hmeas2 : k - (j + 1) < k - j := by omega
                          have HJ2 : Hid ((gs l j).n ≠ x.n → ∀ i, i < j + 1 → (gs l i).n ≠ x.n) := Lib.hid fun h i hi => by
                            by_cases e : i = j
                            · subst e; exact h
                            · exact HJ.out i (by omega)
                          have HB3j := Lib.hid (HB3k.out j hjk)
                          have hbz2 : Below w.heap.size w wr := hbz.trans (hbr.mono hbz.size)
                          clear HJ HB3k HCj
                          generalize (gs l j).n = y at *
                          by_cases hy : y = x.n
                          · have hr := HB3j.out hy
                            subst hr
                            subst hy
                            have d : (x.n == x.n) = true := beq_self_eq_true _
                            clear HJ2 HB3j HRt3
                            go_wp2_with fail
                            go_quiet (fail)
                            go_wp2_with fail
                            go_ret
                            exact ⟨by rw [HSEo.out] <;> rfl, below_drewN hbz2 _⟩
                          · have d : (y == x.n) = false := beq_false_of_ne hy
                            have HJ3 := Lib.hid (HJ2.out hy)
                            clear HJ2 HB3j HRt3 hy
                            go_wp2_with fail
                            go_quiet (fail)
                            go_wp2_with fail
                            go_roundw
                            case rel => exact ⟨j + 1, by omega, by go_num, HJ3, below_drewN hbr _⟩
                            case measure => first | (simp [intOf]; exact hmeas2) | simpa [intOf] using hmeas2
                        · obtain rfl : j = k := by omega
                          have HSk := Lib.hid (HS.out (HRt3.out HJ.out))
                          have hbf := HBZ.out.trans (hbr.mono HBZ.out.size)
                          clear HJ HRt3 HS HB3k HCj HBZ
                          go_wp2_with fail
                          go_roundw
                          case rel => exact ⟨j + 1, by omega, by go_num, HSk, hbf⟩
                          case measure => first | (simp [intOf]; exact hmeas) | simpa [intOf] using hmeas
        · obtain rfl : k = l.length := by omega
          have hr := Lib.hid (HE.out HN.out)
          have hbo := hbw.trans (hbr.mono hbw.size)
          clear HC HL HE HB1 HB2 HB3 HN
          go_wp2_with fail
          go_ret
          exact ⟨by rw [hr.out] <;> rfl, hbo⟩
end Go.Proofs.YtlpdjinhkmgbgaaGreatDoor

namespace Go.Proofs.YtlpdjinhkmgbgaaGreatDoor
set_option linter.unusedVariables false
set_option linter.unusedSimpArgs false
open Go.RowKit

set_option maxRecDepth 100000 in
set_option maxHeartbeats 2000000 in
theorem refValidEdicts_r (L : Int) (a : Option Addr) (js : List Int) (ca : Nat) (aa : Option Addr) (l : List Edc) (cl : Nat) (w : World) (hI : IntsS w a js) (hA : EdS w aa l) :
    Calls Tryz.prog 35 #[.agg #[.int .i64 L, .slice a js.length ca], .slice aa l.length cl] w fun e w' => e = .returned (.bool (edcsB L js l)) ∧ Below w.heap.size w w' := by
  have HV := Lib.hid (fun W (hW : Below w.heap.size w W) => refValidLine_r L a js ca W (hI.below hW))
  have hlen := hA.1
  cases h0 : lineB L js with
  | false =>
    rw [e_bad0 h0]
    rw [h0] at HV
    clear hI hA h0
    go_enter Tryz.func35, Tryz.ntmps35
    go_wp2_with fail
    obtain ⟨wB, hwB⟩ : ∃ wB, w.alloc (.cells #[.int .i64 L, .slice a js.length ca] 24) = wB := ⟨_, rfl⟩
    have hb : Below w.heap.size w wB := by rw [← hwB]; exact (Below.refl _ _).alloc (Nat.le_refl _) _
    have p0 : wB.cell? ⟨w.heap.size, 0, none⟩ = some (.int .i64 L) := by rw [← hwB]; simp [go_sem]
    have p1 : wB.cell? ⟨w.heap.size, 1, none⟩ = some (.slice a js.length ca) := by rw [← hwB]; simp [go_sem]
    rw [hwB]
    clear hwB
    go_wp2_with (go_at_call 26; refine (HV.out _ hb).mono ?_; rintro e w1 ⟨rfl, hb1⟩)
    go_ret
    exact ⟨rfl, hb.trans (hb1.mono hb.size)⟩
  | true =>
    rw [h0] at HV
    by_cases h9 : 50 < l.length
    · rw [e_bad9 h9]
      have h9i : (50 : Int) < (l.length : Int) := by omega
      clear hI hA h0
      go_enter Tryz.func35, Tryz.ntmps35
      go_wp2_with fail
      obtain ⟨wB, hwB⟩ : ∃ wB, w.alloc (.cells #[.int .i64 L, .slice a js.length ca] 24) = wB := ⟨_, rfl⟩
      have hb : Below w.heap.size w wB := by rw [← hwB]; exact (Below.refl _ _).alloc (Nat.le_refl _) _
      have p0 : wB.cell? ⟨w.heap.size, 0, none⟩ = some (.int .i64 L) := by rw [← hwB]; simp [go_sem]
      have p1 : wB.cell? ⟨w.heap.size, 1, none⟩ = some (.slice a js.length ca) := by rw [← hwB]; simp [go_sem]
      rw [hwB]
      clear hwB
      go_wp2_with (go_at_call 26; refine (HV.out _ hb).mono ?_; rintro e w1 ⟨rfl, hb1⟩)
      go_ret
      exact ⟨rfl, hb.trans (hb1.mono hb.size)⟩
    · have h9i : ¬ (50 : Int) < (l.length : Int) := by omega
      have HB1 : Hid (∀ k, k < l.length → btw (ge l k).n 1 1000000000 = false → edcsB L js l = false) := Lib.hid fun k hk h => e_bad1 hk h
      have HB2 : Hid (∀ k, k < l.length → edcB L (ge l k) = false → edcsB L js l = false) := Lib.hid fun k hk h => e_bad2 hk h
      have HB3 : Hid (∀ k j, k < l.length → j < k → (ge l j).n = (ge l k).n → edcsB L js l = false) := Lib.hid fun k j hk hj h => e_bad3 hk hj h
      have HE : Hid ((∀ k, k < l.length → eRt L l k) → edcsB L js l = true) := Lib.hid fun h => e_end h0 (by omega) h
      obtain ⟨-, blk, off, hadr, hc⟩ := hA
      have HC := Lib.hid hc
      have HL : Hid (0 < l.length → aa = some ⟨blk, off, none⟩) := Lib.hid fun h => hadr (List.ne_nil_of_length_pos h)
      clear hI h0 hc hadr
      go_enter Tryz.func35, Tryz.ntmps35
      go_wp2_with fail
      obtain ⟨wB, hwB⟩ : ∃ wB, w.alloc (.cells #[.int .i64 L, .slice a js.length ca] 24) = wB := ⟨_, rfl⟩
      have hb : Below w.heap.size w wB := by rw [← hwB]; exact (Below.refl _ _).alloc (Nat.le_refl _) _
      have p0 : wB.cell? ⟨w.heap.size, 0, none⟩ = some (.int .i64 L) := by rw [← hwB]; simp [go_sem]
      have p1 : wB.cell? ⟨w.heap.size, 1, none⟩ = some (.slice a js.length ca) := by rw [← hwB]; simp [go_sem]
      rw [hwB]
      clear hwB
      go_wp2_with (go_at_call 26; refine (HV.out _ hb).mono ?_; rintro e w1 ⟨rfl, hb1⟩; have hbw := hb.trans (hb1.mono hb.size); replace p0 := cell_below p0 hb1; clear p1)
      clear HV hb1
      go_loopw [5] (fun i wr => ∃ k : Nat, k ≤ l.length ∧ i = .int .i64 k ∧ Hid (∀ j, j < k → eRt L l j) ∧ Below w1.heap.size w1 wr) (fun i _ => l.length - (intOf i).toNat)
      case atStart => exact ⟨0, Nat.zero_le _, rfl, Lib.hid fun j hj => absurd hj (Nat.not_lt_zero _), Below.refl _ _⟩
      case round =>
        obtain ⟨k, hk, rfl, HN, hbr⟩ := hrel
        have p0 := cell_below p0 hbr
        have hz : w.heap.size < wr.heap.size := block_lt p0
        by_cases hlt : k < l.length
        · obtain rfl := HL.out (by omega)
          obtain ⟨c0, c1, c2, c3, c4, c5, c6, c7⟩ := HC.out k hlt
          have hbo := hbw.trans (hbr.mono hbw.size)
          have c0 := cell_below c0 hbo
          have c1 := cell_below c1 hbo
          have c2 := cell_below c2 hbo
          have c3 := cell_below c3 hbo
          have c4 := cell_below c4 hbo
          have c5 := cell_below c5 hbo
          have c6 := cell_below c6 hbo
          have c7 := cell_below c7 hbo
          have hkl : (k : Int) < (l.length : Int) := by omega
          have hmeas : l.length - (k + 1) < l.length - k := by omega
          have HB1k := Lib.hid (HB1.out k hlt)
          have HB2k := Lib.hid (HB2.out k hlt)
          have HB3k := Lib.hid (fun j hj => HB3.out k j hlt hj)
          have HS : Hid (eRt L l k → ∀ j, j < k + 1 → eRt L l j) := Lib.hid fun h j hj => by
            by_cases e : j = k
            · subst e; exact h
            · exact HN.out j (by omega)
          have HRt : Hid (eRt L l k = (btw (ge l k).n 1 1000000000 = true ∧ edcB L (ge l k) = true ∧ ∀ j, j < k → (ge l j).n ≠ (ge l k).n)) := Lib.hid rfl
          have HCj : Hid (∀ j, j < k → wr.cell? ⟨blk, off + j * 8, none⟩ = some (.int .i64 (ge l j).n)) := Lib.hid fun j hj => cell_below (HC.out j (by omega)).1 hbo
          clear HC HL HE HB1 HB2 HB3 HN
          obtain ⟨x, hx⟩ : ∃ x, ge l k = x := ⟨_, rfl⟩
          rw [hx] at HB1k HB2k HB3k HRt c0 c1 c2 c3 c4 c5 c6 c7
          clear hx
          generalize eRt L l k = RT at *
          obtain ⟨s, hs⟩ : ∃ s, edcsB L js l = s := ⟨_, rfl⟩
          rw [hs] at HB1k HB2k HB3k
          have HSE := Lib.hid hs
          clear hs
          have Q0 : Hid (∀ W, Calls Tryz.prog 67 #[.int .i64 x.v, .int .i64 10, .int .i64 200] W fun e w7 => e = .returned (.bool (btw x.v 10 200)) ∧ W = w7) := Lib.hid fun W => refWithin_r 10 200 x.v W
          have Q1 : Hid (∀ W, Calls Tryz.prog 67 #[.int .i64 x.n, .int .i64 1, .int .i64 1000000000] W fun e w7 => e = .returned (.bool (btw x.n 1 1000000000)) ∧ W = w7) := Lib.hid fun W => refWithin_r 1 1000000000 x.n W
          have Q2 : Hid (∀ W, Calls Tryz.prog 78 #[.int .i64 x.d] W fun e w7 => e = .returned (.bool (dirB x.d)) ∧ W = w7) := Lib.hid fun W => refDir_r x.d W
          have Q3 : Hid (∀ W, Calls Tryz.prog 79 #[.int .i64 x.st, .int .i64 x.en] W fun e w7 => e = .returned (.bool (timeB x.st x.en)) ∧ W = w7) := Lib.hid fun W => refHours_r x.st x.en W
          have HSEo := Lib.hid HSE.out
          by_cases t1 : x.tp = 1
          · have d1 : (x.tp == 1) = true := by rw [t1]; rfl
            have d2 : (x.tp == 2) = false := by rw [t1]; rfl
            cases g0 : btw x.v 10 200 with
            | false =>
              have hr : s = false := HB2k.out (by unfold edcB edV; rw [d1, d2, g0]; simp)
              subst hr
              rw [g0] at Q0
              clear g0 t1
              clear HB1k HB2k HB3k HS HRt HCj HSE
              go_wp2_with (first | (go_at_call 67; with_reducible refine Calls.mono (Q0.out _) ?_; rintro e w7 ⟨rfl, rfl⟩) | (go_at_call 67; with_reducible refine Calls.mono (Q1.out _) ?_; rintro e w7 ⟨rfl, rfl⟩) | (go_at_call 78; with_reducible refine Calls.mono (Q2.out _) ?_; rintro e w7 ⟨rfl, rfl⟩) | (go_at_call 79; with_reducible refine Calls.mono (Q3.out _) ?_; rintro e w7 ⟨rfl, rfl⟩))
              go_ret
              exact ⟨by rw [HSEo.out] <;> rfl, hbo.alloc hbo.size _⟩
            | true =>
              have HV : Hid (edV x.tp x.v = true) := Lib.hid (by unfold edV; rw [d1, g0]; rfl)
              rw [g0] at Q0
              clear g0 t1
              cases g1 : btw x.n 1 1000000000 with
              | false =>
                have hr : s = false := HB1k.out g1
                subst hr
                rw [g1] at Q1
                clear g1
                clear HB1k HB2k HB3k HS HRt HCj HSE
                go_wp2_with (first | (go_at_call 67; with_reducible refine Calls.mono (Q0.out _) ?_; rintro e w7 ⟨rfl, rfl⟩) | (go_at_call 67; with_reducible refine Calls.mono (Q1.out _) ?_; rintro e w7 ⟨rfl, rfl⟩) | (go_at_call 78; with_reducible refine Calls.mono (Q2.out _) ?_; rintro e w7 ⟨rfl, rfl⟩) | (go_at_call 79; with_reducible refine Calls.mono (Q3.out _) ?_; rintro e w7 ⟨rfl, rfl⟩))
                go_ret
                exact ⟨by rw [HSEo.out] <;> rfl, hbo.alloc hbo.size _⟩
              | true =>
                rw [g1] at Q1
                cases g2 : dirB x.d with
                | false =>
                  have hr : s = false := HB2k.out (by unfold edcB; rw [g2]; simp)
                  subst hr
                  rw [g2] at Q2
                  clear g2
                  clear HB1k HB2k HB3k HS HRt HCj HSE
                  go_wp2_with (first | (go_at_call 67; with_reducible refine Calls.mono (Q0.out _) ?_; rintro e w7 ⟨rfl, rfl⟩) | (go_at_call 67; with_reducible refine Calls.mono (Q1.out _) ?_; rintro e w7 ⟨rfl, rfl⟩) | (go_at_call 78; with_reducible refine Calls.mono (Q2.out _) ?_; rintro e w7 ⟨rfl, rfl⟩) | (go_at_call 79; with_reducible refine Calls.mono (Q3.out _) ?_; rintro e w7 ⟨rfl, rfl⟩))
                  go_ret
                  exact ⟨by rw [HSEo.out] <;> rfl, hbo.alloc hbo.size _⟩
                | true =>
                  rw [g2] at Q2
                  by_cases ha : x.fr < 0
                  · have hr : s = false := HB2k.out (by unfold edcB; rw [decide_eq_false (by omega : ¬ 0 ≤ x.fr)]; simp)
                    subst hr
                    clear g1 g2
                    clear HB1k HB2k HB3k HS HRt HCj HSE
                    go_wp2_with (first | (go_at_call 67; with_reducible refine Calls.mono (Q0.out _) ?_; rintro e w7 ⟨rfl, rfl⟩) | (go_at_call 67; with_reducible refine Calls.mono (Q1.out _) ?_; rintro e w7 ⟨rfl, rfl⟩) | (go_at_call 78; with_reducible refine Calls.mono (Q2.out _) ?_; rintro e w7 ⟨rfl, rfl⟩) | (go_at_call 79; with_reducible refine Calls.mono (Q3.out _) ?_; rintro e w7 ⟨rfl, rfl⟩))
                    go_ret
                    exact ⟨by rw [HSEo.out] <;> rfl, hbo.alloc hbo.size _⟩
                  · skip
                    by_cases hb : x.tt ≤ x.fr
                    · have hr : s = false := HB2k.out (by unfold edcB; rw [decide_eq_false (by omega : ¬ x.fr < x.tt)]; simp)
                      subst hr
                      clear g1 g2
                      clear HB1k HB2k HB3k HS HRt HCj HSE
                      go_wp2_with (first | (go_at_call 67; with_reducible refine Calls.mono (Q0.out _) ?_; rintro e w7 ⟨rfl, rfl⟩) | (go_at_call 67; with_reducible refine Calls.mono (Q1.out _) ?_; rintro e w7 ⟨rfl, rfl⟩) | (go_at_call 78; with_reducible refine Calls.mono (Q2.out _) ?_; rintro e w7 ⟨rfl, rfl⟩) | (go_at_call 79; with_reducible refine Calls.mono (Q3.out _) ?_; rintro e w7 ⟨rfl, rfl⟩))
                      go_ret
                      exact ⟨by rw [HSEo.out] <;> rfl, hbo.alloc hbo.size _⟩
                    · skip
                      by_cases hc : L < x.tt
                      · have hr : s = false := HB2k.out (by unfold edcB; rw [decide_eq_false (by omega : ¬ x.tt ≤ L)]; simp)
                        subst hr
                        clear g1 g2
                        clear HB1k HB2k HB3k HS HRt HCj HSE
                        go_wp2_with (first | (go_at_call 67; with_reducible refine Calls.mono (Q0.out _) ?_; rintro e w7 ⟨rfl, rfl⟩) | (go_at_call 67; with_reducible refine Calls.mono (Q1.out _) ?_; rintro e w7 ⟨rfl, rfl⟩) | (go_at_call 78; with_reducible refine Calls.mono (Q2.out _) ?_; rintro e w7 ⟨rfl, rfl⟩) | (go_at_call 79; with_reducible refine Calls.mono (Q3.out _) ?_; rintro e w7 ⟨rfl, rfl⟩))
                        go_ret
                        exact ⟨by rw [HSEo.out] <;> rfl, hbo.alloc hbo.size _⟩
                      · skip
                        cases g3 : timeB x.st x.en with
                        | false =>
                          have hr : s = false := HB2k.out (by unfold edcB; rw [g3]; simp)
                          subst hr
                          rw [g3] at Q3
                          clear g1 g2 g3
                          clear HB1k HB2k HB3k HS HRt HCj HSE
                          go_wp2_with (first | (go_at_call 67; with_reducible refine Calls.mono (Q0.out _) ?_; rintro e w7 ⟨rfl, rfl⟩) | (go_at_call 67; with_reducible refine Calls.mono (Q1.out _) ?_; rintro e w7 ⟨rfl, rfl⟩) | (go_at_call 78; with_reducible refine Calls.mono (Q2.out _) ?_; rintro e w7 ⟨rfl, rfl⟩) | (go_at_call 79; with_reducible refine Calls.mono (Q3.out _) ?_; rintro e w7 ⟨rfl, rfl⟩))
                          go_ret
                          exact ⟨by rw [HSEo.out] <;> rfl, hbo.alloc hbo.size _⟩
                        | true =>
                          rw [g3] at Q3
                          have HSg : Hid (edcB L x = true) := Lib.hid (by unfold edcB; rw [HV.out, g2, g3, decide_eq_true (by omega : 0 ≤ x.fr), decide_eq_true (by omega : x.fr < x.tt), decide_eq_true (by omega : x.tt ≤ L)]; rfl)
                          have HRt3 : Hid ((∀ j, j < k → (ge l j).n ≠ x.n) → RT) := Lib.hid fun h2 => by rw [HRt.out]; exact ⟨g1, HSg.out, h2⟩
                          have HSbox : Hid (Below w.heap.size w (wr.alloc (.cells #[.int .i64 x.n, .int .i64 x.tp, .int .i64 x.v, .int .i64 x.d, .int .i64 x.fr, .int .i64 x.tt, .int .i64 x.st, .int .i64 x.en] 126))) := Lib.hid (hbo.alloc hbo.size _)
                          clear HB1k HB2k HRt HSg HSE g1 g2 g3
                          go_wp2_with (first | (go_at_call 67; with_reducible refine Calls.mono (Q0.out _) ?_; rintro e w7 ⟨rfl, rfl⟩) | (go_at_call 67; with_reducible refine Calls.mono (Q1.out _) ?_; rintro e w7 ⟨rfl, rfl⟩) | (go_at_call 78; with_reducible refine Calls.mono (Q2.out _) ?_; rintro e w7 ⟨rfl, rfl⟩) | (go_at_call 79; with_reducible refine Calls.mono (Q3.out _) ?_; rintro e w7 ⟨rfl, rfl⟩))
                          clear Q0 Q1 Q2 Q3
                          obtain ⟨wS, hwS⟩ : ∃ wS, wr.alloc (.cells #[.int .i64 x.n, .int .i64 x.tp, .int .i64 x.v, .int .i64 x.d, .int .i64 x.fr, .int .i64 x.tt, .int .i64 x.st, .int .i64 x.en] 126) = wS := ⟨_, rfl⟩
                          rw [hwS] at HSbox
                          have hbS0 : Below wr.heap.size wr wS := by rw [← hwS]; exact (Below.refl _ _).alloc (Nat.le_refl _) _
                          have x0 : wS.cell? ⟨wr.heap.size, 0, none⟩ = some (.int .i64 x.n) := by rw [← hwS]; simp [go_sem]
                          rw [hwS]
                          clear hwS
                          have HCj : Hid (∀ j, j < k → wS.cell? ⟨blk, off + j * 8, none⟩ = some (.int .i64 (ge l j).n)) := Lib.hid fun j hj => cell_below (HCj.out j hj) hbS0
                          have HBZ := Lib.hid (hbr.trans (hbS0.mono hbr.size))
                          have hbz := HSbox.out
                          obtain ⟨rb, hrb⟩ : ∃ rb, wr.heap.size = rb := ⟨_, rfl⟩
                          rw [hrb] at x0 ⊢
                          clear c0 c1 c2 c3 c4 c5 c6 c7 hbr hbo hbS0 hrb p0 hz HSbox
                          go_loopw [8] (fun i wr => ∃ j : Nat, j ≤ k ∧ i = .int .i64 j ∧ Hid (∀ i, i < j → (ge l i).n ≠ x.n) ∧ Below wS.heap.size wS wr) (fun i _ => k - (intOf i).toNat)
                          case atStart => exact ⟨0, Nat.zero_le _, rfl, Lib.hid fun j hj => absurd hj (Nat.not_lt_zero _), Below.refl _ _⟩
                          case round =>
                            obtain ⟨j, hj, rfl, HJ, hbr⟩ := hrel
                            have x0 := cell_below x0 hbr
                            by_cases hjk : j < k
                            · have q0 := cell_below (HCj.out j hjk) hbr
                              have hji : (j : Int) < (k : Int) := by omega
                              have hjl : (j : Int) < (l.length : Int) := by omega
                              have hmeas2 : k - (j + 1) < k - j := by omega
                              have HJ2 : Hid ((ge l j).n ≠ x.n → ∀ i, i < j + 1 → (ge l i).n ≠ x.n) := Lib.hid fun h i hi => by
                                by_cases e : i = j
                                · subst e; exact h
                                · exact HJ.out i (by omega)
                              have HB3j := Lib.hid (HB3k.out j hjk)
                              have hbz2 : Below w.heap.size w wr := hbz.trans (hbr.mono hbz.size)
                              clear HJ HB3k HCj
                              generalize (ge l j).n = y at *
                              by_cases hy : y = x.n
                              · have hr := HB3j.out hy
                                subst hr
                                subst hy
                                have d : (x.n == x.n) = true := beq_self_eq_true _
                                clear HJ2 HB3j HRt3
                                go_wp2_with fail
                                go_quiet (fail)
                                go_wp2_with fail
                                go_ret
                                exact ⟨by rw [HSEo.out] <;> rfl, below_drewN hbz2 _⟩
                              · have d : (y == x.n) = false := beq_false_of_ne hy
                                have HJ3 := Lib.hid (HJ2.out hy)
                                clear HJ2 HB3j HRt3 hy
                                go_wp2_with fail
                                go_quiet (fail)
                                go_wp2_with fail
                                go_roundw
                                case rel => exact ⟨j + 1, by omega, by go_num, HJ3, below_drewN hbr _⟩
                                case measure => first | (simp [intOf]; exact hmeas2) | simpa [intOf] using hmeas2
                            · obtain rfl : j = k := by omega
                              have HSk := Lib.hid (HS.out (HRt3.out HJ.out))
                              have hbf := HBZ.out.trans (hbr.mono HBZ.out.size)
                              clear HJ HRt3 HS HB3k HCj HBZ
                              go_wp2_with fail
                              go_roundw
                              case rel => exact ⟨j + 1, by omega, by go_num, HSk, hbf⟩
                              case measure => first | (simp [intOf]; exact hmeas) | simpa [intOf] using hmeas
          · have d1 : (x.tp == 1) = false := beq_false_of_ne t1
            by_cases t2 : x.tp = 2
            · have d2 : (x.tp == 2) = true := by rw [t2]; rfl
              by_cases v1 : x.v = 1
              · have d3 : (x.v == 1) = true := by rw [v1]; rfl
                have HV : Hid (edV x.tp x.v = true) := Lib.hid (by unfold edV; rw [d2, d3]; simp)
                clear t1 t2 v1
                cases g1 : btw x.n 1 1000000000 with
                | false =>
                  have hr : s = false := HB1k.out g1
                  subst hr
                  rw [g1] at Q1
                  clear g1
                  clear HB1k HB2k HB3k HS HRt HCj HSE
                  go_wp2_with (first | (go_at_call 67; with_reducible refine Calls.mono (Q0.out _) ?_; rintro e w7 ⟨rfl, rfl⟩) | (go_at_call 67; with_reducible refine Calls.mono (Q1.out _) ?_; rintro e w7 ⟨rfl, rfl⟩) | (go_at_call 78; with_reducible refine Calls.mono (Q2.out _) ?_; rintro e w7 ⟨rfl, rfl⟩) | (go_at_call 79; with_reducible refine Calls.mono (Q3.out _) ?_; rintro e w7 ⟨rfl, rfl⟩))
                  go_ret
                  exact ⟨by rw [HSEo.out] <;> rfl, hbo.alloc hbo.size _⟩
                | true =>
                  rw [g1] at Q1
                  cases g2 : dirB x.d with
                  | false =>
                    have hr : s = false := HB2k.out (by unfold edcB; rw [g2]; simp)
                    subst hr
                    rw [g2] at Q2
                    clear g2
                    clear HB1k HB2k HB3k HS HRt HCj HSE
                    go_wp2_with (first | (go_at_call 67; with_reducible refine Calls.mono (Q0.out _) ?_; rintro e w7 ⟨rfl, rfl⟩) | (go_at_call 67; with_reducible refine Calls.mono (Q1.out _) ?_; rintro e w7 ⟨rfl, rfl⟩) | (go_at_call 78; with_reducible refine Calls.mono (Q2.out _) ?_; rintro e w7 ⟨rfl, rfl⟩) | (go_at_call 79; with_reducible refine Calls.mono (Q3.out _) ?_; rintro e w7 ⟨rfl, rfl⟩))
                    go_ret
                    exact ⟨by rw [HSEo.out] <;> rfl, hbo.alloc hbo.size _⟩
                  | true =>
                    rw [g2] at Q2
                    by_cases ha : x.fr < 0
                    · have hr : s = false := HB2k.out (by unfold edcB; rw [decide_eq_false (by omega : ¬ 0 ≤ x.fr)]; simp)
                      subst hr
                      clear g1 g2
                      clear HB1k HB2k HB3k HS HRt HCj HSE
                      go_wp2_with (first | (go_at_call 67; with_reducible refine Calls.mono (Q0.out _) ?_; rintro e w7 ⟨rfl, rfl⟩) | (go_at_call 67; with_reducible refine Calls.mono (Q1.out _) ?_; rintro e w7 ⟨rfl, rfl⟩) | (go_at_call 78; with_reducible refine Calls.mono (Q2.out _) ?_; rintro e w7 ⟨rfl, rfl⟩) | (go_at_call 79; with_reducible refine Calls.mono (Q3.out _) ?_; rintro e w7 ⟨rfl, rfl⟩))
                      go_ret
                      exact ⟨by rw [HSEo.out] <;> rfl, hbo.alloc hbo.size _⟩
                    · skip
                      by_cases hb : x.tt ≤ x.fr
                      · have hr : s = false := HB2k.out (by unfold edcB; rw [decide_eq_false (by omega : ¬ x.fr < x.tt)]; simp)
                        subst hr
                        clear g1 g2
                        clear HB1k HB2k HB3k HS HRt HCj HSE
                        go_wp2_with (first | (go_at_call 67; with_reducible refine Calls.mono (Q0.out _) ?_; rintro e w7 ⟨rfl, rfl⟩) | (go_at_call 67; with_reducible refine Calls.mono (Q1.out _) ?_; rintro e w7 ⟨rfl, rfl⟩) | (go_at_call 78; with_reducible refine Calls.mono (Q2.out _) ?_; rintro e w7 ⟨rfl, rfl⟩) | (go_at_call 79; with_reducible refine Calls.mono (Q3.out _) ?_; rintro e w7 ⟨rfl, rfl⟩))
                        go_ret
                        exact ⟨by rw [HSEo.out] <;> rfl, hbo.alloc hbo.size _⟩
                      · skip
                        by_cases hc : L < x.tt
                        · have hr : s = false := HB2k.out (by unfold edcB; rw [decide_eq_false (by omega : ¬ x.tt ≤ L)]; simp)
                          subst hr
                          clear g1 g2
                          clear HB1k HB2k HB3k HS HRt HCj HSE
                          go_wp2_with (first | (go_at_call 67; with_reducible refine Calls.mono (Q0.out _) ?_; rintro e w7 ⟨rfl, rfl⟩) | (go_at_call 67; with_reducible refine Calls.mono (Q1.out _) ?_; rintro e w7 ⟨rfl, rfl⟩) | (go_at_call 78; with_reducible refine Calls.mono (Q2.out _) ?_; rintro e w7 ⟨rfl, rfl⟩) | (go_at_call 79; with_reducible refine Calls.mono (Q3.out _) ?_; rintro e w7 ⟨rfl, rfl⟩))
                          go_ret
                          exact ⟨by rw [HSEo.out] <;> rfl, hbo.alloc hbo.size _⟩
                        · skip
                          cases g3 : timeB x.st x.en with
                          | false =>
                            have hr : s = false := HB2k.out (by unfold edcB; rw [g3]; simp)
                            subst hr
                            rw [g3] at Q3
                            clear g1 g2 g3
                            clear HB1k HB2k HB3k HS HRt HCj HSE
                            go_wp2_with (first | (go_at_call 67; with_reducible refine Calls.mono (Q0.out _) ?_; rintro e w7 ⟨rfl, rfl⟩) | (go_at_call 67; with_reducible refine Calls.mono (Q1.out _) ?_; rintro e w7 ⟨rfl, rfl⟩) | (go_at_call 78; with_reducible refine Calls.mono (Q2.out _) ?_; rintro e w7 ⟨rfl, rfl⟩) | (go_at_call 79; with_reducible refine Calls.mono (Q3.out _) ?_; rintro e w7 ⟨rfl, rfl⟩))
                            go_ret
                            exact ⟨by rw [HSEo.out] <;> rfl, hbo.alloc hbo.size _⟩
                          | true =>
                            rw [g3] at Q3
                            have HSg : Hid (edcB L x = true) := Lib.hid (by unfold edcB; rw [HV.out, g2, g3, decide_eq_true (by omega : 0 ≤ x.fr), decide_eq_true (by omega : x.fr < x.tt), decide_eq_true (by omega : x.tt ≤ L)]; rfl)
                            have HRt3 : Hid ((∀ j, j < k → (ge l j).n ≠ x.n) → RT) := Lib.hid fun h2 => by rw [HRt.out]; exact ⟨g1, HSg.out, h2⟩
                            have HSbox : Hid (Below w.heap.size w (wr.alloc (.cells #[.int .i64 x.n, .int .i64 x.tp, .int .i64 x.v, .int .i64 x.d, .int .i64 x.fr, .int .i64 x.tt, .int .i64 x.st, .int .i64 x.en] 126))) := Lib.hid (hbo.alloc hbo.size _)
                            clear HB1k HB2k HRt HSg HSE g1 g2 g3
                            go_wp2_with (first | (go_at_call 67; with_reducible refine Calls.mono (Q0.out _) ?_; rintro e w7 ⟨rfl, rfl⟩) | (go_at_call 67; with_reducible refine Calls.mono (Q1.out _) ?_; rintro e w7 ⟨rfl, rfl⟩) | (go_at_call 78; with_reducible refine Calls.mono (Q2.out _) ?_; rintro e w7 ⟨rfl, rfl⟩) | (go_at_call 79; with_reducible refine Calls.mono (Q3.out _) ?_; rintro e w7 ⟨rfl, rfl⟩))
                            clear Q0 Q1 Q2 Q3
                            obtain ⟨wS, hwS⟩ : ∃ wS, wr.alloc (.cells #[.int .i64 x.n, .int .i64 x.tp, .int .i64 x.v, .int .i64 x.d, .int .i64 x.fr, .int .i64 x.tt, .int .i64 x.st, .int .i64 x.en] 126) = wS := ⟨_, rfl⟩
                            rw [hwS] at HSbox
                            have hbS0 : Below wr.heap.size wr wS := by rw [← hwS]; exact (Below.refl _ _).alloc (Nat.le_refl _) _
                            have x0 : wS.cell? ⟨wr.heap.size, 0, none⟩ = some (.int .i64 x.n) := by rw [← hwS]; simp [go_sem]
                            rw [hwS]
                            clear hwS
                            have HCj : Hid (∀ j, j < k → wS.cell? ⟨blk, off + j * 8, none⟩ = some (.int .i64 (ge l j).n)) := Lib.hid fun j hj => cell_below (HCj.out j hj) hbS0
                            have HBZ := Lib.hid (hbr.trans (hbS0.mono hbr.size))
                            have hbz := HSbox.out
                            obtain ⟨rb, hrb⟩ : ∃ rb, wr.heap.size = rb := ⟨_, rfl⟩
                            rw [hrb] at x0 ⊢
                            clear c0 c1 c2 c3 c4 c5 c6 c7 hbr hbo hbS0 hrb p0 hz HSbox
                            go_loopw [8] (fun i wr => ∃ j : Nat, j ≤ k ∧ i = .int .i64 j ∧ Hid (∀ i, i < j → (ge l i).n ≠ x.n) ∧ Below wS.heap.size wS wr) (fun i _ => k - (intOf i).toNat)
                            case atStart => exact ⟨0, Nat.zero_le _, rfl, Lib.hid fun j hj => absurd hj (Nat.not_lt_zero _), Below.refl _ _⟩
                            case round =>
                              obtain ⟨j, hj, rfl, HJ, hbr⟩ := hrel
                              have x0 := cell_below x0 hbr
                              by_cases hjk : j < k
                              · have q0 := cell_below (HCj.out j hjk) hbr
                                have hji : (j : Int) < (k : Int) := by omega
                                have hjl : (j : Int) < (l.length : Int) := by omega
                                have hmeas2 : k - (j + 1) < k - j := by omega
                                have HJ2 : Hid ((ge l j).n ≠ x.n → ∀ i, i < j + 1 → (ge l i).n ≠ x.n) := Lib.hid fun h i hi => by
                                  by_cases e : i = j
                                  · subst e; exact h
                                  · exact HJ.out i (by omega)
                                have HB3j := Lib.hid (HB3k.out j hjk)
                                have hbz2 : Below w.heap.size w wr := hbz.trans (hbr.mono hbz.size)
                                clear HJ HB3k HCj
                                generalize (ge l j).n = y at *
                                by_cases hy : y = x.n
                                · have hr := HB3j.out hy
                                  subst hr
                                  subst hy
                                  have d : (x.n == x.n) = true := beq_self_eq_true _
                                  clear HJ2 HB3j HRt3
                                  go_wp2_with fail
                                  go_quiet (fail)
                                  go_wp2_with fail
                                  go_ret
                                  exact ⟨by rw [HSEo.out] <;> rfl, below_drewN hbz2 _⟩
                                · have d : (y == x.n) = false := beq_false_of_ne hy
                                  have HJ3 := Lib.hid (HJ2.out hy)
                                  clear HJ2 HB3j HRt3 hy
                                  go_wp2_with fail
                                  go_quiet (fail)
                                  go_wp2_with fail
                                  go_roundw
                                  case rel => exact ⟨j + 1, by omega, by go_num, HJ3, below_drewN hbr _⟩
                                  case measure => first | (simp [intOf]; exact hmeas2) | simpa [intOf] using hmeas2
                              · obtain rfl : j = k := by omega
                                have HSk := Lib.hid (HS.out (HRt3.out HJ.out))
                                have hbf := HBZ.out.trans (hbr.mono HBZ.out.size)
                                clear HJ HRt3 HS HB3k HCj HBZ
                                go_wp2_with fail
                                go_roundw
                                case rel => exact ⟨j + 1, by omega, by go_num, HSk, hbf⟩
                                case measure => first | (simp [intOf]; exact hmeas) | simpa [intOf] using hmeas
              · have d3 : (x.v == 1) = false := beq_false_of_ne v1
                have hr : s = false := HB2k.out (by unfold edcB edV; rw [d1, d2, d3]; simp)
                subst hr
                clear t1 t2 v1
                clear HB1k HB2k HB3k HS HRt HCj HSE
                go_wp2_with (first | (go_at_call 67; with_reducible refine Calls.mono (Q0.out _) ?_; rintro e w7 ⟨rfl, rfl⟩) | (go_at_call 67; with_reducible refine Calls.mono (Q1.out _) ?_; rintro e w7 ⟨rfl, rfl⟩) | (go_at_call 78; with_reducible refine Calls.mono (Q2.out _) ?_; rintro e w7 ⟨rfl, rfl⟩) | (go_at_call 79; with_reducible refine Calls.mono (Q3.out _) ?_; rintro e w7 ⟨rfl, rfl⟩))
                go_ret
                exact ⟨by rw [HSEo.out] <;> rfl, hbo.alloc hbo.size _⟩
            · have d2 : (x.tp == 2) = false := beq_false_of_ne t2
              have hr : s = false := HB2k.out (by unfold edcB edV; rw [d1, d2]; simp)
              subst hr
              clear t1 t2
              clear HB1k HB2k HB3k HS HRt HCj HSE
              go_wp2_with (first | (go_at_call 67; with_reducible refine Calls.mono (Q0.out _) ?_; rintro e w7 ⟨rfl, rfl⟩) | (go_at_call 67; with_reducible refine Calls.mono (Q1.out _) ?_; rintro e w7 ⟨rfl, rfl⟩) | (go_at_call 78; with_reducible refine Calls.mono (Q2.out _) ?_; rintro e w7 ⟨rfl, rfl⟩) | (go_at_call 79; with_reducible refine Calls.mono (Q3.out _) ?_; rintro e w7 ⟨rfl, rfl⟩))
              go_ret
              exact ⟨by rw [HSEo.out] <;> rfl, hbo.alloc hbo.size _⟩
        · obtain rfl : k = l.length := by omega
          have hr := Lib.hid (HE.out HN.out)
          have hbo := hbw.trans (hbr.mono hbw.size)
          clear HC HL HE HB1 HB2 HB3 HN
          go_wp2_with fail
          go_ret
          exact ⟨by rw [hr.out] <;> rfl, hbo⟩
end Go.Proofs.YtlpdjinhkmgbgaaGreatDoor
