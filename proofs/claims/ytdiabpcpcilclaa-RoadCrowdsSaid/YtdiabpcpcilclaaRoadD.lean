/-
  union of package road. By an AI agent.
-/
import Derived.Test.YtdiabpcpcilclaaRoadR
import Derived.Deep.RegionHeld3
import Derived.StillTailTactics
import Derived.BigRegion
namespace Go.Proofs.Ytdiabpcpcilclaa
set_option linter.unusedVariables false
set_option linter.unusedSimpArgs false
open Go.RowKit

theorem joinK_from (d : List Spn) : ∀ k, k ≤ d.length → ∀ p ∈ joinK d k, (∃ q ∈ d, p.1 = q.1) ∧ ∃ q ∈ d, p.2 = q.2
  | 0, _, p, hp => by cases hp
  | k + 1, hk, p, hp => by
    have ih := joinK_from d k (by omega)
    have hm := gp_mem (show k < d.length by omega)
    rw [joinK] at hp
    generalize gp d k = s at *
    generalize joinK d k = acc at *
    rcases snoc_cases acc with rfl | ⟨a, q, rfl⟩
    · rw [jn1_nil] at hp
      simp at hp; subst hp
      exact ⟨⟨_, hm, rfl⟩, ⟨_, hm, rfl⟩⟩
    · rw [jn1_snoc] at hp
      split at hp
      · rcases List.mem_append.1 hp with hp | hp
        · exact ih p (List.mem_append_left _ hp)
        · simp at hp; subst hp
          have hq := ih q (by simp)
          refine ⟨hq.1, ?_⟩
          simp only []
          by_cases g : q.2 ≤ s.2
          · exact ⟨s, hm, by omega⟩
          · obtain ⟨r, hr, e⟩ := hq.2
            exact ⟨r, hr, by omega⟩
      · rcases List.mem_append.1 hp with hp | hp
        · exact ih p hp
        · simp at hp; subst hp
          exact ⟨⟨_, hm, rfl⟩, ⟨_, hm, rfl⟩⟩
/-- What union returns. -/
def UniE (w : World) (l : List Spn) (e : Ending) (w' : World) : Prop := ∃ d : List Spn, d.Perm l ∧ AscF d ∧ ∃ b c, e = .returned (.slice b (joinK d d.length).length c) ∧ w'.ownsRow w.heap.size 26 2 (.slice b (joinK d d.length).length c) (joinK d d.length).length (clS (joinK d d.length)) ∧ Below w.heap.size w w'

set_option maxRecDepth 100000 in
set_option maxHeartbeats 4000000 in
theorem union_raw (a : Option Addr) (l : List Spn) (ca : Nat) (w : World) (hA : PairsS w a l) (hn : l.length ≤ 100000000) :
    Calls Try.prog 41 #[.slice a l.length ca] w (UniE w l) := by
  have HCl := Lib.hid (clone_any a l ca w hA hn)
  obtain ⟨n0, hi, hz0, hz1, hz2⟩ := info_parts spanInfo
  clear hA
  go_enter Try.func41, Try.ntmps41
  go_wp2_with fail
  refine HCl.out.mono ?_
  rintro e w1 ⟨b, c', rfl, hown, hb1⟩
  clear HCl
  rcases hown.2 with ⟨h1, h2⟩ | ⟨g, c2, cur, h1, hg⟩
  · have hl : l = [] := List.eq_nil_of_length_eq_zero h2
    subst hl
    obtain ⟨rfl, rfl⟩ : b = none ∧ c' = 0 := by simpa using h1
    clear h1 h2 hown
    go_wp2_with fail
    refine (sortNil_any _ _ _).mono ?_
    rintro e w2 ⟨rfl, rfl⟩
    go_wp2_with fail
    go_loopw [4, 14] (fun v i wr => v = .slice none 0 0 ∧ i = .int .i64 0 ∧ w2 = wr) (fun _ _ _ => 0)
    case atStart => exact ⟨rfl, rfl, rfl⟩
    case round =>
      obtain ⟨rfl, rfl, rfl⟩ := hrel
      go_wp2_with fail
      go_ret
      exact ⟨[], List.Perm.refl _, fun i j h1 h2 => absurd h2 (Nat.not_lt_zero _), none, 0, rfl, ⟨rfl, .inl ⟨rfl, rfl⟩⟩, hb1⟩
  · obtain ⟨rfl, rfl⟩ : b = some ⟨g, 0, none⟩ ∧ c' = c2 := by simpa using h1
    clear h1 hg
    have HSo := Lib.hid (sort_any w.heap.size g c' l w1 hown hn)
    clear hown
    go_wp2_with fail
    refine HSo.out.mono ?_
    rintro e w2 ⟨rfl, d, hp, hA, hcd, hb2⟩
    have hbo : Below w.heap.size w w2 := hb1.trans hb2
    have HLen := Lib.hid hp.length_eq
    have HP := Lib.hid hp
    have HAs := Lib.hid hA
    have HC := Lib.hid hcd
    clear HSo hb1 hb2 hp hA hcd
    obtain ⟨wo, rfl⟩ : ∃ wo : World, wo = w2 := ⟨_, rfl⟩
    go_wp2_with fail
    go_loopw [4, 14] (fun v i wr => ∃ k : Nat, k ≤ l.length ∧ i = .int .i64 k ∧ (∃ a c, v = .slice a (joinK d k).length c) ∧ Hid (wr.ownsRow wo.heap.size 26 2 v (joinK d k).length (clS (joinK d k))) ∧ Below wo.heap.size wo wr) (fun _ i _ => l.length - (intOf i).toNat)
    case atStart => exact ⟨0, Nat.zero_le _, rfl, ⟨none, 0, rfl⟩, Lib.hid ⟨rfl, .inl ⟨rfl, rfl⟩⟩, Below.refl _ _⟩
    case round =>
      obtain ⟨k, hk, rfl, ⟨av, cv, rfl⟩, HRow, hbr⟩ := hrel
      by_cases hlt : k < l.length
      · obtain ⟨c0, c1⟩ := HC.out k (by have := HLen.out; omega)
        have c0 := cell_below c0 hbr
        have c1 := cell_below c1 hbr
        have HN : Hid (joinK d (k + 1) = jn1 (joinK d k) ((gp d k).1, (gp d k).2)) := Lib.hid rfl
        have HKL := joinK_len d k
        clear HC
        generalize (gp d k).1 = x at *
        generalize (gp d k).2 = y at *
        obtain ⟨S, hS⟩ : ∃ S, joinK d k = S := ⟨_, rfl⟩
        rw [hS] at HN HRow HKL ⊢
        clear hS
        have hklt : (k : Int) < (l.length : Int) := by omega
        by_cases h0 : S.length = 0
        · have hS0 := List.eq_nil_of_length_eq_zero h0
          subst hS0
          have HAP : Hid (joinK d (k + 1) = [(x, y)]) := Lib.hid (by rw [HN.out, jn1_nil])
          clear HN
          go_wp2_with fail
          obtain ⟨wq, hwq⟩ : ∃ wq, wr.alloc (.cells #[.int .i64 x, .int .i64 y] 26) = wq := ⟨_, rfl⟩
          have hbq : Below wo.heap.size wo wq := by rw [← hwq]; exact hbr.alloc hbr.size _
          have s0 : wq.cell? ⟨wr.heap.size, 0, none⟩ = some (.int .i64 x) := by rw [← hwq]; simp [go_sem]
          have s1 : wq.cell? ⟨wr.heap.size, 1, none⟩ = some (.int .i64 y) := by rw [← hwq]; simp [go_sem]
          have hbx : Below wr.heap.size wr wq := by rw [← hwq]; exact (Below.refl _ _).alloc (Nat.le_refl _) _
          have HRow0 := HRow.out.alloc (.cells #[.int .i64 x, .int .i64 y] 26)
          rw [hwq] at HRow0 ⊢
          have HRow := Lib.hid HRow0
          clear HRow0 hwq c0 c1
          go_quiet (fail)
          have hbA := below_drewN hbq nq
          have HRow := Lib.hid (owns_below HRow.out (below_drewN (Below.refl wq.heap.size wq) nq))
          have s0 := cell_below s0 (below_drewN (Below.refl wq.heap.size wq) nq)
          have s1 := cell_below s1 (below_drewN (Below.refl wq.heap.size wq) nq)
          generalize wq.drewN nq = wA at hbA HRow s0 s1 ⊢

          have HAP : Hid (0 + 1 = (joinK d (k + 1)).length ∧ ([] : List Value) ++ [.int .i64 x, .int .i64 y] = clS (joinK d (k + 1))) := Lib.hid (by rw [HAP.out]; exact ⟨rfl, rfl⟩)
          have HRow : Hid (wA.ownsRow wo.heap.size 26 2 (.slice av 0 cv) 0 []) := HRow
          clear h0
          have hown := Lib.hid (HRow.out.alloc (.cells #[.int .i64 x, .int .i64 y] 26))
          have hbs := hbA.size
          go_wp2_with (first | (at_builtin; go_loud (refine wpList_append_lies _ rfl _ _ 30 rfl wo.heap.size 26 n0 _ 2 16 Try.underlying30 hi hz0 hz1 hz2 rfl (by decide) (.slice _ 0 cv) 0 _ (by rfl) hown.out ⟨wA.heap.size, 0, none⟩ 1 1 [.int .i64 x, .int .i64 y] (by rfl) (by rfl) ?d1 ?d2 (by decide) ?d3 ?d4 ?d5 _ rfl ?_)))
          case d1 =>
            refine World.news_of_block (cs := #[.int .i64 x, .int .i64 y]) (t := 26) (fr := (0, 0)) ?_
            exact heap_alloc_new _ _
          case d2 => simp [Value.oneCell']
          case d3 => unfold maxLen; omega
          case d4 => omega
          case d5 => first | (simp; omega) | simp
          intro g6 c6 w6 hown6 hgrow6 hat6 hlt6
          have hb6 : Below wo.heap.size wo w6 := ((hbA.alloc hbs _).grown hgrow6 (by first | (simp; omega) | simp) (fun z hz => owns_block hown.out hz))

          go_wp2_with fail
          go_roundw
          case rel => exact ⟨k + 1, by omega, by go_num, ⟨_, c6, by rw [← HAP.out.1]⟩, Lib.hid (by rw [← HAP.out.1, ← HAP.out.2]; exact hown6), hb6⟩
          case measure => simp [intOf]; omega
        · obtain ⟨t, ht⟩ : ∃ t, S.length = t + 1 := ⟨S.length - 1, by omega⟩
          have hti : (S.length : Int) - 1 = (t : Int) := by omega
          have ht0 : (0 : Int) ≤ (t : Int) := by omega
          have ht2 : (t : Int) < (S.length : Int) := by omega
          have htw2 : IntKind.i64.wrap ((S.length : Int) - 1) = (t : Int) := by rw [hti]; exact IntWalk.i64_in _ (by omega)
          obtain ⟨gj, hgj⟩ : ∃ gj, av = some ⟨gj, 0, none⟩ := by
            rcases HRow.out.2 with ⟨h1, h2⟩ | ⟨g2, c2, cur, h1, _⟩
            · omega
            · exact ⟨g2, by simpa using (Value.slice.inj h1).1⟩
          subst hgj
          have cy := World.ownsRow.cellAt HRow.out (t * 2 + 1) (by omega)
          rw [clS_1 S t (by omega)] at cy
          have fy := World.ownsRow.frozenAt HRow.out (t * 2 + 1)
          have hgl : wo.heap.size ≤ gj := by
            rcases HRow.out.2 with ⟨h1, h2⟩ | ⟨g2, c2, cur, h1, h2, _⟩
            · omega
            · have : gj = g2 := by simpa using (Value.slice.inj h1).1
              omega
          have HJ : Hid (jn1 S (x, y) = if x ≤ (gp S t).2 then S.set t ((gp S t).1, max (gp S t).2 y) else S ++ [(x, y)]) := Lib.hid (by
            unfold jn1
            rw [show S.length - 1 = t by omega]
            by_cases hx : x ≤ (gp S t).2
            · rw [if_pos ⟨by omega, hx⟩, if_pos hx]
            · rw [if_neg (fun h => hx h.2), if_neg hx])
          by_cases hx : x ≤ (gp S t).2
          · have hJ := HJ.out
            rw [if_pos hx] at hJ
            have HNn : Hid (joinK d (k + 1) = S.set t ((gp S t).1, max (gp S t).2 y)) := Lib.hid (HN.out.trans hJ)
            clear hJ HJ HN
            have HST : Hid (∀ W : World, W.ownsRow wo.heap.size 26 2 (.slice (some ⟨gj, 0, none⟩) S.length cv) S.length (clS S) → (W.setCell ⟨gj, t * 2 + 1, none⟩ (.int .i64 (max (gp S t).2 y))).ownsRow wo.heap.size 26 2 (.slice (some ⟨gj, 0, none⟩) (joinK d (k + 1)).length cv) (joinK d (k + 1)).length (clS (joinK d (k + 1)))) := Lib.hid fun W h => by
              rw [HNn.out, List.length_set, ← clS_set S t _ (by omega)]
              exact (World.ownsRow.stored h (t * 2 + 1) (.int .i64 (max (gp S t).2 y))).1
            have HLn : Hid ((joinK d (k + 1)).length = S.length) := Lib.hid (by rw [HNn.out, List.length_set])
            have HT := Lib.hid ht
            clear HNn ht
            generalize (gp S t).2 = q at *
            go_wp2_with fail
            obtain ⟨wq, hwq⟩ : ∃ wq, wr.alloc (.cells #[.int .i64 x, .int .i64 y] 26) = wq := ⟨_, rfl⟩
            have hbq : Below wo.heap.size wo wq := by rw [← hwq]; exact hbr.alloc hbr.size _
            have s0 : wq.cell? ⟨wr.heap.size, 0, none⟩ = some (.int .i64 x) := by rw [← hwq]; simp [go_sem]
            have s1 : wq.cell? ⟨wr.heap.size, 1, none⟩ = some (.int .i64 y) := by rw [← hwq]; simp [go_sem]
            have hbx : Below wr.heap.size wr wq := by rw [← hwq]; exact (Below.refl _ _).alloc (Nat.le_refl _) _
            have HRow0 := HRow.out.alloc (.cells #[.int .i64 x, .int .i64 y] 26)
            rw [hwq] at HRow0 ⊢
            have HRow := Lib.hid HRow0
            clear HRow0 hwq c0 c1
            have gz := block_lt cy
            have cy := cell_below cy hbx
            have fy := ((bcell hbx).2 gj (t * 2 + 1) gz).trans fy
            go_quiet (fail)
            have hbA := below_drewN hbq nq
            have HRow := Lib.hid (owns_below HRow.out (below_drewN (Below.refl wq.heap.size wq) nq))
            have s0 := cell_below s0 (below_drewN (Below.refl wq.heap.size wq) nq)
            have s1 := cell_below s1 (below_drewN (Below.refl wq.heap.size wq) nq)
            have cy := cell_below cy (below_drewN (Below.refl wq.heap.size wq) nq)
            have fy := ((bcell (below_drewN (Below.refl wq.heap.size wq) nq)).2 gj (t * 2 + 1) (Nat.lt_of_lt_of_le gz hbx.size)).trans fy
            generalize wq.drewN nq = wA at hbA HRow s0 s1 cy fy ⊢

            go_wp2_with fail
            go_still_tail 12, (by kernel_rfl)
            change wpList _ _ _ _ _ wA.drew
            have cy' : wA.drew.cell? ⟨gj, t * 2 + 1, none⟩ = some (.int .i64 _) := cy
            have fy' : wA.drew.frozen? ⟨gj, t * 2 + 1, none⟩ = false := fy
            have hbA' : Below wo.heap.size wo wA.drew := hbA.drew
            have HRow' := Lib.hid (show wA.drew.ownsRow wo.heap.size 26 2 (.slice (some ⟨gj, 0, none⟩) S.length cv) S.length (clS S) from owns_below HRow.out ((Below.refl _ _).drew))
            generalize wA.drew = wB at cy' fy' hbA' HRow' ⊢
            clear cy fy hbA HRow s0 s1
            go_wp2_with fail
            go_roundw
            case rel => exact ⟨k + 1, by omega, by go_num, ⟨_, cv, by rw [HLn.out]⟩, Lib.hid (by have := HST.out _ HRow'.out; rwa [HLn.out] at this ⊢), hbA'.setCell (p := ⟨gj, t * 2 + 1, none⟩) hgl _⟩
            case measure => simp [intOf]; omega
          · have hJ := HJ.out
            rw [if_neg hx] at hJ
            have HAP : Hid (S.length + 1 = (joinK d (k + 1)).length ∧ clS S ++ [.int .i64 x, .int .i64 y] = clS (joinK d (k + 1))) := Lib.hid (by rw [HN.out, hJ, clS_app]; exact ⟨by simp, rfl⟩)
            have HT := Lib.hid ht
            clear hJ HJ HN ht
            generalize (gp S t).2 = q at *
            go_wp2_with fail
            obtain ⟨wq, hwq⟩ : ∃ wq, wr.alloc (.cells #[.int .i64 x, .int .i64 y] 26) = wq := ⟨_, rfl⟩
            have hbq : Below wo.heap.size wo wq := by rw [← hwq]; exact hbr.alloc hbr.size _
            have s0 : wq.cell? ⟨wr.heap.size, 0, none⟩ = some (.int .i64 x) := by rw [← hwq]; simp [go_sem]
            have s1 : wq.cell? ⟨wr.heap.size, 1, none⟩ = some (.int .i64 y) := by rw [← hwq]; simp [go_sem]
            have hbx : Below wr.heap.size wr wq := by rw [← hwq]; exact (Below.refl _ _).alloc (Nat.le_refl _) _
            have HRow0 := HRow.out.alloc (.cells #[.int .i64 x, .int .i64 y] 26)
            rw [hwq] at HRow0 ⊢
            have HRow := Lib.hid HRow0
            clear HRow0 hwq c0 c1
            have gz := block_lt cy
            have cy := cell_below cy hbx
            have fy := ((bcell hbx).2 gj (t * 2 + 1) gz).trans fy
            go_quiet (fail)
            clear cy fy
            have hbA := below_drewN hbq nq
            have HRow := Lib.hid (owns_below HRow.out (below_drewN (Below.refl wq.heap.size wq) nq))
            have s0 := cell_below s0 (below_drewN (Below.refl wq.heap.size wq) nq)
            have s1 := cell_below s1 (below_drewN (Below.refl wq.heap.size wq) nq)
            generalize wq.drewN nq = wA at hbA HRow s0 s1 ⊢

            have hown := Lib.hid (HRow.out.alloc (.cells #[.int .i64 x, .int .i64 y] 26))
            have hbs := hbA.size
            go_wp2_with (first | (at_builtin; go_loud (refine wpList_append_lies _ rfl _ _ 30 rfl wo.heap.size 26 n0 _ 2 16 Try.underlying30 hi hz0 hz1 hz2 rfl (by decide) (.slice _ S.length cv) S.length _ (by rfl) hown.out ⟨wA.heap.size, 0, none⟩ 1 1 [.int .i64 x, .int .i64 y] (by rfl) (by rfl) ?d1 ?d2 (by decide) ?d3 ?d4 ?d5 _ rfl ?_)))
            case d1 =>
              refine World.news_of_block (cs := #[.int .i64 x, .int .i64 y]) (t := 26) (fr := (0, 0)) ?_
              exact heap_alloc_new _ _
            case d2 => simp [Value.oneCell']
            case d3 => unfold maxLen; omega
            case d4 => omega
            case d5 => first | (simp; omega) | simp
            intro g6 c6 w6 hown6 hgrow6 hat6 hlt6
            have hb6 : Below wo.heap.size wo w6 := ((hbA.alloc hbs _).grown hgrow6 (by first | (simp; omega) | simp) (fun z hz => owns_block hown.out hz))

            go_wp2_with fail
            go_roundw
            case rel => exact ⟨k + 1, by omega, by go_num, ⟨_, c6, by rw [← HAP.out.1]⟩, Lib.hid (by rw [← HAP.out.1, ← HAP.out.2]; exact hown6), hb6⟩
            case measure => simp [intOf]; omega
      · obtain rfl : k = l.length := by omega
        have hbw := hbo.trans (hbr.mono hbo.size)
        have HEnd : Hid (UniE w l (.returned (.slice av (joinK d l.length).length cv)) wr) := Lib.hid ⟨d, HP.out, HAs.out, av, cv, by rw [HLen.out], by rw [HLen.out]; exact owns_base HRow.out hbo.size, hbw⟩
        clear HC HRow HP HAs
        go_wp2_with fail
        go_ret
        exact HEnd.out
end Go.Proofs.Ytdiabpcpcilclaa
