/-
  The walk of the reference's Legible. By an AI agent.
-/
import Derived.Test.YtkddmjadilmldaaLightLb
namespace Go.Proofs.Ytkddmjadilmldaa
set_option linter.unusedVariables false
set_option linter.unusedSimpArgs false
open Go.RowKit


set_option maxRecDepth 100000 in
set_option maxHeartbeats 8000000 in
theorem RefLegible_any (ao ae ar : Option Addr) (o e : List Int) (r : List (List Int)) (co ce cr : Nat) (z0 z1 z2 z3 : Int) (need letter : Int) (w : World) (hT : TableS w ao ae ar o e r) (hco : o.length ≤ co) (hce : e.length ≤ ce) :
    Calls Try.prog 13 #[.agg #[.slice ao o.length co, .slice ae e.length ce, .slice ar r.length cr], .agg #[.int .i64 z0, .int .i64 z1, .int .i64 z2, .int .i64 z3], .int .i64 need, .int .i64 letter] w fun E w' => ∃ a cap, E = .returned (.tuple #[.slice a (lgL o e r z0 z1 z2 z3 need letter).length cap, .int .i64 (lgE o e r z0 z1 z2 z3 need letter)]) ∧ PairsS w' a (lgL o e r z0 z1 z2 z3 need letter) ∧ Below w.heap.size w w' := by
  have HV := Lib.hid (fun W (hW : Below w.heap.size w W) => refValidTable_any ao ae ar o e r co ce cr W (hT.below hW))
  have HS := Lib.hid (refScene_any z0 z1 z2 z3)
  have hWB : Below w.heap.size w ((w.alloc (.cells #[.slice ao o.length co, .slice ae e.length ce, .slice ar r.length cr] 25)).alloc (.cells #[.int .i64 z0, .int .i64 z1, .int .i64 z2, .int .i64 z3] 27)) := box2_start
  by_cases ha : tableB o e r = true
  rotate_left
  · have e1 : lgE o e r z0 z1 z2 z3 need letter = 30 := by unfold lgE; rw [if_neg ha]
    have ha : tableB o e r = false := by simpa using ha
    rw [lg_bad e1 (by decide), e1]
    rw [ha] at HV
    clear hT e1 ha
    go_enter Try.func13, Try.ntmps13
    go_wp2_with fail
    refine (HV.out _ hWB).mono ?_
    rintro E1 w1 ⟨rfl, hb1⟩
    have p0 := (hb1.cell (p := ⟨w.heap.size, 0, none⟩) (by first | (simp; omega) | simp)).trans (show _ = some ((.slice ao o.length co : Value)) by simp [go_sem])
    have p1 := (hb1.cell (p := ⟨w.heap.size, 1, none⟩) (by first | (simp; omega) | simp)).trans (show _ = some ((.slice ae e.length ce : Value)) by simp [go_sem])
    have p2 := (hb1.cell (p := ⟨w.heap.size, 2, none⟩) (by first | (simp; omega) | simp)).trans (show _ = some ((.slice ar r.length cr : Value)) by simp [go_sem])
    have s0 := (hb1.cell (p := ⟨w.heap.size + 1, 0, none⟩) (by simp)).trans (show _ = some ((.int .i64 z0 : Value)) by simp [go_sem])
    have s1 := (hb1.cell (p := ⟨w.heap.size + 1, 1, none⟩) (by simp)).trans (show _ = some ((.int .i64 z1 : Value)) by simp [go_sem])
    have s2 := (hb1.cell (p := ⟨w.heap.size + 1, 2, none⟩) (by simp)).trans (show _ = some ((.int .i64 z2 : Value)) by simp [go_sem])
    have s3 := (hb1.cell (p := ⟨w.heap.size + 1, 3, none⟩) (by simp)).trans (show _ = some ((.int .i64 z3 : Value)) by simp [go_sem])
    have hbo := box2_below hb1
    clear hb1
    go_wp2_with fail
    go_ret2
    exact ⟨none, 0, rfl, pairs_nil _, hbo⟩
  rw [ha] at HV
  by_cases hb : sceneB z0 z1 z2 z3 = true
  rotate_left
  · have e1 : lgE o e r z0 z1 z2 z3 need letter = 31 := by unfold lgE; rw [if_pos ha, if_neg hb]
    have hb : sceneB z0 z1 z2 z3 = false := by simpa using hb
    rw [lg_bad e1 (by decide), e1]
    rw [hb] at HS
    clear hT e1 ha hb
    go_enter Try.func13, Try.ntmps13
    go_wp2_with fail
    refine (HV.out _ hWB).mono ?_
    rintro E1 w1 ⟨rfl, hb1⟩
    have p0 := (hb1.cell (p := ⟨w.heap.size, 0, none⟩) (by first | (simp; omega) | simp)).trans (show _ = some ((.slice ao o.length co : Value)) by simp [go_sem])
    have p1 := (hb1.cell (p := ⟨w.heap.size, 1, none⟩) (by first | (simp; omega) | simp)).trans (show _ = some ((.slice ae e.length ce : Value)) by simp [go_sem])
    have p2 := (hb1.cell (p := ⟨w.heap.size, 2, none⟩) (by first | (simp; omega) | simp)).trans (show _ = some ((.slice ar r.length cr : Value)) by simp [go_sem])
    have s0 := (hb1.cell (p := ⟨w.heap.size + 1, 0, none⟩) (by simp)).trans (show _ = some ((.int .i64 z0 : Value)) by simp [go_sem])
    have s1 := (hb1.cell (p := ⟨w.heap.size + 1, 1, none⟩) (by simp)).trans (show _ = some ((.int .i64 z1 : Value)) by simp [go_sem])
    have s2 := (hb1.cell (p := ⟨w.heap.size + 1, 2, none⟩) (by simp)).trans (show _ = some ((.int .i64 z2 : Value)) by simp [go_sem])
    have s3 := (hb1.cell (p := ⟨w.heap.size + 1, 3, none⟩) (by simp)).trans (show _ = some ((.int .i64 z3 : Value)) by simp [go_sem])
    have hbo := box2_below hb1
    clear hb1
    go_wp2_with fail
    refine (HS.out _).mono ?_
    rintro E1 w2 ⟨rfl, hb2⟩
    have p0 := cell_below p0 hb2
    have p1 := cell_below p1 hb2
    have p2 := cell_below p2 hb2
    have s0 := cell_below s0 hb2
    have s1 := cell_below s1 hb2
    have s2 := cell_below s2 hb2
    have s3 := cell_below s3 hb2
    have hbo := hbo.trans (hb2.mono hbo.size)
    clear hb2
    go_wp2_with fail
    go_ret2
    exact ⟨none, 0, rfl, pairs_nil _, hbo⟩
  rw [hb] at HS
  rcases btw_cases need 0 1000000000 with b1 | b1
  rotate_left
  · have e1 : lgE o e r z0 z1 z2 z3 need letter = 2 := by unfold lgE; rw [if_pos ha, if_pos hb, if_neg (by rw [b1]; simp)]
    rw [lg_bad e1 (by decide), e1]
    have B1 := Lib.hid b1
    have B2 := Lib.hid b1
    clear hT e1 ha hb b1
    go_enter Try.func13, Try.ntmps13
    go_wp2_with fail
    refine (HV.out _ hWB).mono ?_
    rintro E1 w1 ⟨rfl, hb1⟩
    have p0 := (hb1.cell (p := ⟨w.heap.size, 0, none⟩) (by first | (simp; omega) | simp)).trans (show _ = some ((.slice ao o.length co : Value)) by simp [go_sem])
    have p1 := (hb1.cell (p := ⟨w.heap.size, 1, none⟩) (by first | (simp; omega) | simp)).trans (show _ = some ((.slice ae e.length ce : Value)) by simp [go_sem])
    have p2 := (hb1.cell (p := ⟨w.heap.size, 2, none⟩) (by first | (simp; omega) | simp)).trans (show _ = some ((.slice ar r.length cr : Value)) by simp [go_sem])
    have s0 := (hb1.cell (p := ⟨w.heap.size + 1, 0, none⟩) (by simp)).trans (show _ = some ((.int .i64 z0 : Value)) by simp [go_sem])
    have s1 := (hb1.cell (p := ⟨w.heap.size + 1, 1, none⟩) (by simp)).trans (show _ = some ((.int .i64 z1 : Value)) by simp [go_sem])
    have s2 := (hb1.cell (p := ⟨w.heap.size + 1, 2, none⟩) (by simp)).trans (show _ = some ((.int .i64 z2 : Value)) by simp [go_sem])
    have s3 := (hb1.cell (p := ⟨w.heap.size + 1, 3, none⟩) (by simp)).trans (show _ = some ((.int .i64 z3 : Value)) by simp [go_sem])
    have hbo := box2_below hb1
    clear hb1
    go_wp2_with fail
    refine (HS.out _).mono ?_
    rintro E1 w2 ⟨rfl, hb2⟩
    have p0 := cell_below p0 hb2
    have p1 := cell_below p1 hb2
    have p2 := cell_below p2 hb2
    have s0 := cell_below s0 hb2
    have s1 := cell_below s1 hb2
    have s2 := cell_below s2 hb2
    have s3 := cell_below s3 hb2
    have hbo := hbo.trans (hb2.mono hbo.size)
    clear hb2
    go_wp2_with (go_at_call 35; refine (within_any _ _ _ _).mono ?_; rintro E w' ⟨rfl, rfl⟩; first | rw [B1.out] | rw [B2.out])
    go_ret2
    exact ⟨none, 0, rfl, pairs_nil _, hbo⟩
  rcases btw_cases letter 1 2000 with b2 | b2
  rotate_left
  · have e1 : lgE o e r z0 z1 z2 z3 need letter = 2 := by unfold lgE; rw [if_pos ha, if_pos hb, if_neg (by rw [b2]; simp)]
    rw [lg_bad e1 (by decide), e1]
    have B1 := Lib.hid b1
    have B2 := Lib.hid b2
    clear hT e1 ha hb b1 b2
    go_enter Try.func13, Try.ntmps13
    go_wp2_with fail
    refine (HV.out _ hWB).mono ?_
    rintro E1 w1 ⟨rfl, hb1⟩
    have p0 := (hb1.cell (p := ⟨w.heap.size, 0, none⟩) (by first | (simp; omega) | simp)).trans (show _ = some ((.slice ao o.length co : Value)) by simp [go_sem])
    have p1 := (hb1.cell (p := ⟨w.heap.size, 1, none⟩) (by first | (simp; omega) | simp)).trans (show _ = some ((.slice ae e.length ce : Value)) by simp [go_sem])
    have p2 := (hb1.cell (p := ⟨w.heap.size, 2, none⟩) (by first | (simp; omega) | simp)).trans (show _ = some ((.slice ar r.length cr : Value)) by simp [go_sem])
    have s0 := (hb1.cell (p := ⟨w.heap.size + 1, 0, none⟩) (by simp)).trans (show _ = some ((.int .i64 z0 : Value)) by simp [go_sem])
    have s1 := (hb1.cell (p := ⟨w.heap.size + 1, 1, none⟩) (by simp)).trans (show _ = some ((.int .i64 z1 : Value)) by simp [go_sem])
    have s2 := (hb1.cell (p := ⟨w.heap.size + 1, 2, none⟩) (by simp)).trans (show _ = some ((.int .i64 z2 : Value)) by simp [go_sem])
    have s3 := (hb1.cell (p := ⟨w.heap.size + 1, 3, none⟩) (by simp)).trans (show _ = some ((.int .i64 z3 : Value)) by simp [go_sem])
    have hbo := box2_below hb1
    clear hb1
    go_wp2_with fail
    refine (HS.out _).mono ?_
    rintro E1 w2 ⟨rfl, hb2⟩
    have p0 := cell_below p0 hb2
    have p1 := cell_below p1 hb2
    have p2 := cell_below p2 hb2
    have s0 := cell_below s0 hb2
    have s1 := cell_below s1 hb2
    have s2 := cell_below s2 hb2
    have s3 := cell_below s3 hb2
    have hbo := hbo.trans (hb2.mono hbo.size)
    clear hb2
    go_wp2_with (go_at_call 35; refine (within_any _ _ _ _).mono ?_; rintro E w' ⟨rfl, rfl⟩; first | rw [B1.out] | rw [B2.out])
    go_ret2
    exact ⟨none, 0, rfl, pairs_nil _, hbo⟩
  have e1 : lgE o e r z0 z1 z2 z3 need letter = 0 := by unfold lgE; rw [if_pos ha, if_pos hb, if_pos ⟨b1, b2⟩]
  rw [lg_good e1, e1]
  obtain ⟨m0, m1⟩ := (btw_iff _ _ _).1 b1
  obtain ⟨l0, l1⟩ := (btw_iff _ _ _).1 b2
  have B1 := Lib.hid b1
  have B2 := Lib.hid b2
  have HB : Hid (∀ k : Nat, k < 400 → ∀ W, Below w.heap.size w W → Calls Try.prog 36 #[.agg #[.slice ao o.length co, .slice ae e.length ce, .slice ar r.length cr], .agg #[.int .i64 z0, .int .i64 z1, .int .i64 z2, .int .i64 z3], .int .i64 need, .int .i64 letter, .int .i64 ((k : Int) + 1)] W fun E w' => E = .returned (.bool (seeB o e r z0 z1 z2 z3 need letter (k + 1))) ∧ Below W.heap.size W w') := Lib.hid fun k hk W hW => sees_any ao ae ar o e r co ce cr z0 z1 z2 z3 need letter (k + 1) W (hT.below hW) hco hce (tableB_iff.1 ha) hb (by omega) (by omega) l0 l1
  obtain ⟨n0, hi, hz0, hz1, hz2⟩ := info_parts spanInfo
  clear hT e1 ha hb b1 b2 hco hce
  obtain ⟨P, hPP⟩ : ∃ P, seeB o e r z0 z1 z2 z3 need letter = P := ⟨_, rfl⟩
  rw [hPP] at HB ⊢
  clear hPP
  have HN : Hid (∀ k, spansOf P (k + 1) = if P (k + 1) = true then stp (spansOf P k) ((k : Int) + 1) else spansOf P k) := Lib.hid fun k => rfl
  go_enter Try.func13, Try.ntmps13
  go_wp2_with fail
  refine (HV.out _ hWB).mono ?_
  rintro E1 w1 ⟨rfl, hb1⟩
  have p0 := (hb1.cell (p := ⟨w.heap.size, 0, none⟩) (by first | (simp; omega) | simp)).trans (show _ = some ((.slice ao o.length co : Value)) by simp [go_sem])
  have p1 := (hb1.cell (p := ⟨w.heap.size, 1, none⟩) (by first | (simp; omega) | simp)).trans (show _ = some ((.slice ae e.length ce : Value)) by simp [go_sem])
  have p2 := (hb1.cell (p := ⟨w.heap.size, 2, none⟩) (by first | (simp; omega) | simp)).trans (show _ = some ((.slice ar r.length cr : Value)) by simp [go_sem])
  have s0 := (hb1.cell (p := ⟨w.heap.size + 1, 0, none⟩) (by simp)).trans (show _ = some ((.int .i64 z0 : Value)) by simp [go_sem])
  have s1 := (hb1.cell (p := ⟨w.heap.size + 1, 1, none⟩) (by simp)).trans (show _ = some ((.int .i64 z1 : Value)) by simp [go_sem])
  have s2 := (hb1.cell (p := ⟨w.heap.size + 1, 2, none⟩) (by simp)).trans (show _ = some ((.int .i64 z2 : Value)) by simp [go_sem])
  have s3 := (hb1.cell (p := ⟨w.heap.size + 1, 3, none⟩) (by simp)).trans (show _ = some ((.int .i64 z3 : Value)) by simp [go_sem])
  have hbo := box2_below hb1
  clear hb1
  go_wp2_with fail
  refine (HS.out _).mono ?_
  rintro E1 w2 ⟨rfl, hb2⟩
  have p0 := cell_below p0 hb2
  have p1 := cell_below p1 hb2
  have p2 := cell_below p2 hb2
  have s0 := cell_below s0 hb2
  have s1 := cell_below s1 hb2
  have s2 := cell_below s2 hb2
  have s3 := cell_below s3 hb2
  have hbo := hbo.trans (hb2.mono hbo.size)
  clear hb2
  clear hWB HV HS
  obtain ⟨wo, rfl⟩ : ∃ wo : World, wo = w2 := ⟨_, rfl⟩
  go_wp2_with (go_at_call 35; refine (within_any _ _ _ _).mono ?_; rintro E w' ⟨rfl, rfl⟩; first | rw [B1.out] | rw [B2.out])
  go_loopw [10, 11] (fun v i wr => ∃ k : Nat, k ≤ 400 ∧ i = .int .i64 ((k : Int) + 1) ∧ (∃ a c, v = .slice a (spansOf P k).length c) ∧ Hid (wr.ownsRow wo.heap.size 78 2 v (spansOf P k).length (clS (spansOf P k))) ∧ Below wo.heap.size wo wr) (fun _ i _ => 401 - (intOf i).toNat)
  case atStart => exact ⟨0, by omega, by simp, ⟨none, 0, rfl⟩, Lib.hid ⟨rfl, .inl ⟨rfl, rfl⟩⟩, Below.refl _ _⟩
  case round =>
    obtain ⟨k, hk, rfl, ⟨av, cv, rfl⟩, HRow, hbr⟩ := hrel
    have hbw := hbo.trans (hbr.mono hbo.size)
    have p0 := cell_below p0 hbr
    have p1 := cell_below p1 hbr
    have p2 := cell_below p2 hbr
    have s0 := cell_below s0 hbr
    have s1 := cell_below s1 hbr
    have s2 := cell_below s2 hbr
    have s3 := cell_below s3 hbr
    by_cases hlt : k + 1 ≤ 400
    · have hA2 : (k : Int) + 1 ≤ 400 := by omega
      have HBk := Lib.hid (HB.out k (by omega))
      have HNk := HN.out k
      clear HB HN
      go_wp2_with fail
      refine (HBk.out _ hbw).mono ?_
      rintro E2 w5 ⟨rfl, hb5⟩
      have p0 := cell_below p0 hb5
      have p1 := cell_below p1 hb5
      have p2 := cell_below p2 hb5
      have s0 := cell_below s0 hb5
      have s1 := cell_below s1 hb5
      have s2 := cell_below s2 hb5
      have s3 := cell_below s3 hb5
      have HRow := Lib.hid (owns_below HRow.out hb5)
      have hb5 := hbr.trans (hb5.mono hbr.size)
      clear hbr hbw HBk
      cases hv : P (k + 1) with
      | true =>
        rw [hv, if_pos rfl] at HNk
        have HN1 := Lib.hid HNk
        clear HNk hv
        obtain ⟨S, hS⟩ : ∃ S, spansOf P k = S := ⟨_, rfl⟩
        have HS := Lib.hid hS
        have HBS := (spans_bd P k)
        rw [hS] at HRow HBS ⊢
        have hlS : S.length ≤ 400 := by have := HBS.1; omega
        have HBv := Lib.hid HBS.2
        clear hS HBS
        by_cases h0 : S.length = 0
        · have HNn : Hid (spansOf P (k + 1) = S ++ [((k : Int) + 1, (k : Int) + 1 + 1)]) := Lib.hid (by rw [HN1.out, HS.out, stp_new (by omega)])
          have hAP : Hid (0 + 1 = (spansOf P (k + 1)).length ∧ ([] : List Value) ++ [.int .i64 ((k : Int) + 1), .int .i64 ((k : Int) + 1 + 1)] = clS (spansOf P (k + 1))) := Lib.hid (by rw [HNn.out, clS_app, List.eq_nil_of_length_eq_zero h0]; exact ⟨by simp, rfl⟩)
          have HRow : Hid (w5.ownsRow wo.heap.size 78 2 (.slice av 0 cv) 0 []) := Lib.hid (by
            have := HRow.out
            rw [h0, List.eq_nil_of_length_eq_zero h0] at this
            exact this)
          rw [h0]
          clear h0 hlS HBv HS
          have hown := Lib.hid (HRow.out.alloc (.cells #[.int .i64 ((k : Int) + 1), .int .i64 ((k : Int) + 1 + 1)] 78))
          clear HN1 HNn
          have hbs5 := hb5.size
          go_wp2_with (first | (at_builtin; go_loud (refine wpList_append_lies _ rfl _ _ 32 rfl wo.heap.size 78 n0 _ 2 16 Try.underlying32 hi hz0 hz1 hz2 rfl (by decide) (.slice _ 0 cv) 0 _ (by rfl) hown.out ⟨w5.heap.size, 0, none⟩ 1 1 [.int .i64 ((k : Int) + 1), .int .i64 ((k : Int) + 1 + 1)] (by rfl) (by rfl) ?d1 ?d2 (by decide) ?d3 ?d4 ?d5 _ rfl ?_)))
          case d1 =>
            refine World.news_of_block (cs := #[.int .i64 ((k : Int) + 1), .int .i64 ((k : Int) + 1 + 1)]) (t := 78) (fr := (0, 0)) ?_
            exact heap_alloc_new _ _
          case d2 => simp [Value.oneCell']
          case d3 => unfold maxLen; omega
          case d4 => omega
          case d5 => first | (simp; omega) | simp
          intro g6 c6 w6 hown6 hgrow6 hat6 hlt6
          have hb6 : Below wo.heap.size wo w6 := ((hb5.alloc hbs5 _).grown hgrow6 (by first | (simp; omega) | simp) (fun z hz => by
            rcases hown.out.2 with ⟨h, _⟩ | ⟨g2, c3, cur, h1, h2, _⟩
            · rw [h] at hz; simp [Value.ownBlock] at hz
            · rw [h1] at hz; simp [Value.ownBlock] at hz; omega))
          go_wp2_with fail
          go_roundw
          case rel => exact ⟨k + 1, by omega, by go_num, ⟨_, c6, by rw [← hAP.out.1]⟩, Lib.hid (by rw [← hAP.out.1, ← hAP.out.2]; exact hown6), hb6⟩
          case measure => simp [intOf]; omega
        · obtain ⟨t, ht⟩ : ∃ t, S.length = t + 1 := ⟨S.length - 1, by omega⟩
          have hti : (S.length : Int) - 1 = (t : Int) := by omega
          have ht0 : ¬ (S.length : Int) = 0 := by omega
          have ht1 : (0 : Int) < (S.length : Int) := by omega
          have ht2 : (t : Int) < (S.length : Int) := by omega
          have htw : IntKind.i64.wrap (t : Int) = (t : Int) := IntWalk.i64_in _ (by omega)
          have htw2 : IntKind.i64.wrap ((S.length : Int) - 1) = (t : Int) := by rw [hti]; exact htw
          obtain ⟨g, hg⟩ : ∃ g, av = some ⟨g, 0, none⟩ := by
            rcases HRow.out.2 with ⟨h1, h2⟩ | ⟨g2, c2, cur, h1, _⟩
            · omega
            · exact ⟨g2, by simpa using (Value.slice.inj h1).1⟩
          subst hg
          have cy := World.ownsRow.cellAt HRow.out (t * 2 + 1) (by omega)
          rw [clS_1 S t (by omega)] at cy
          have fy := World.ownsRow.frozenAt HRow.out (t * 2 + 1)
          have hgl : wo.heap.size ≤ g := by
            rcases HRow.out.2 with ⟨h1, h2⟩ | ⟨g2, c2, cur, h1, h2, _⟩
            · omega
            · have : g = g2 := by simpa using (Value.slice.inj h1).1
              omega
          by_cases hy : (gp S t).2 = (k : Int) + 1
          · have HNn : Hid (spansOf P (k + 1) = S.set t ((gp S t).1, (k : Int) + 1 + 1)) := Lib.hid (by rw [HN1.out, HS.out, stp_upd ht hy])
            have HST : Hid (∀ W : World, W.ownsRow wo.heap.size 78 2 (.slice (some ⟨g, 0, none⟩) S.length cv) S.length (clS S) → (W.setCell ⟨g, t * 2 + 1, none⟩ (.int .i64 ((k : Int) + 1 + 1))).ownsRow wo.heap.size 78 2 (.slice (some ⟨g, 0, none⟩) (spansOf P (k + 1)).length cv) (spansOf P (k + 1)).length (clS (spansOf P (k + 1)))) := Lib.hid fun W h => by
              rw [HNn.out, List.length_set, ← clS_set S t _ (by omega)]
              exact (World.ownsRow.stored h (t * 2 + 1) (.int .i64 ((k : Int) + 1 + 1))).1
            have HLn : Hid ((spansOf P (k + 1)).length = S.length) := Lib.hid (by rw [HNn.out, List.length_set])
            rw [hy] at cy
            have HT := Lib.hid ht
            clear HN1 HNn HBv hy ht
            go_wp2_with fail
            go_roundw
            case rel => exact ⟨k + 1, by omega, by go_num, ⟨_, cv, by rw [HLn.out]⟩, Lib.hid (by have := HST.out _ HRow.out; rwa [HLn.out] at this ⊢), hb5.setCell (p := ⟨g, t * 2 + 1, none⟩) hgl _⟩
            case measure => simp [intOf]; omega
          · have HNn : Hid (spansOf P (k + 1) = S ++ [((k : Int) + 1, (k : Int) + 1 + 1)]) := Lib.hid (by rw [HN1.out, HS.out, stp_new (by rw [ht, Nat.add_sub_cancel]; exact fun h => hy h.2)])
            have hown := Lib.hid (HRow.out.alloc (.cells #[.int .i64 ((k : Int) + 1), .int .i64 ((k : Int) + 1 + 1)] 78))
            have HT := Lib.hid ht
            clear HBv ht
            generalize (gp S t).2 = y at *
            have hAP : Hid (S.length + 1 = (spansOf P (k + 1)).length ∧ clS S ++ [.int .i64 ((k : Int) + 1), .int .i64 ((k : Int) + 1 + 1)] = clS (spansOf P (k + 1))) := Lib.hid (by rw [HNn.out, clS_app]; exact ⟨by simp, rfl⟩)
            clear HN1 HNn
            have hbs5 := hb5.size
            go_wp2_with (first | (at_builtin; go_loud (refine wpList_append_lies _ rfl _ _ 32 rfl wo.heap.size 78 n0 _ 2 16 Try.underlying32 hi hz0 hz1 hz2 rfl (by decide) (.slice _ S.length cv) S.length _ (by rfl) hown.out ⟨w5.heap.size, 0, none⟩ 1 1 [.int .i64 ((k : Int) + 1), .int .i64 ((k : Int) + 1 + 1)] (by rfl) (by rfl) ?d1 ?d2 (by decide) ?d3 ?d4 ?d5 _ rfl ?_)))
            case d1 =>
              refine World.news_of_block (cs := #[.int .i64 ((k : Int) + 1), .int .i64 ((k : Int) + 1 + 1)]) (t := 78) (fr := (0, 0)) ?_
              exact heap_alloc_new _ _
            case d2 => simp [Value.oneCell']
            case d3 => unfold maxLen; omega
            case d4 => omega
            case d5 => first | (simp; omega) | simp
            intro g6 c6 w6 hown6 hgrow6 hat6 hlt6
            have hb6 : Below wo.heap.size wo w6 := ((hb5.alloc hbs5 _).grown hgrow6 (by first | (simp; omega) | simp) (fun z hz => by
              rcases hown.out.2 with ⟨h, _⟩ | ⟨g2, c3, cur, h1, h2, _⟩
              · rw [h] at hz; simp [Value.ownBlock] at hz
              · rw [h1] at hz; simp [Value.ownBlock] at hz; omega))
            go_wp2_with fail
            go_roundw
            case rel => exact ⟨k + 1, by omega, by go_num, ⟨_, c6, by rw [← hAP.out.1]⟩, Lib.hid (by rw [← hAP.out.1, ← hAP.out.2]; exact hown6), hb6⟩
            case measure => simp [intOf]; omega
      | false =>
        rw [hv, if_neg (by simp)] at HNk
        have HN1 := Lib.hid HNk
        clear HNk hv
        go_wp2_with fail
        go_roundw
        case rel => exact ⟨k + 1, by omega, by go_num, ⟨av, cv, by rw [HN1.out]⟩, Lib.hid (by rw [HN1.out]; exact HRow.out), hb5⟩
        case measure => simp [intOf]; omega
    · obtain rfl : k = 400 := by omega
      have HBS := Lib.hid (spans_bd P 400)
      have HPO : Hid (PairsS wr av (spansOf P 400)) := Lib.hid (pairs_own HRow.out (by have := HBS.out.1; omega) (fun j hj => by have := HBS.out.2 j hj; unfold I64; omega))
      clear HB HN HRow HBS
      go_wp2_with fail
      go_ret2
      exact ⟨av, cv, rfl, HPO.out, hbw⟩
end Go.Proofs.Ytkddmjadilmldaa
