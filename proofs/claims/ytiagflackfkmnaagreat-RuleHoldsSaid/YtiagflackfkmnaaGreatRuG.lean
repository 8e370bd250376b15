/-
  numbered of signs; ValidSigns. By an AI agent.
-/
import Derived.Test.YtiagflackfkmnaaGreatRuF
import Derived.Deep.RegionHeld3
import Derived.Deep.AppendLies
import Derived.BigQuiet
import Derived.BigRegion
namespace Go.Proofs.YtiagflackfkmnaaGreat
set_option linter.unusedVariables false
set_option linter.unusedSimpArgs false
open Go.RowKit

theorem owns_belowI {w w' : World} {base : Nat} {e : TypeId} {size : Nat} {v : Value} {n : Nat} {xs : List Value} (h : w.ownsRow base e size v n xs) (hb : Below w.heap.size w w') : w'.ownsRow base e size v n xs := by
  refine ⟨h.1, ?_⟩
  rcases h.2 with h2 | ⟨g, cap, cur, h1, h2, h3, h4⟩
  · exact .inl h2
  · have hg : g < w.heap.size := (Array.getElem?_eq_some_iff.1 h3).1
    exact .inr ⟨g, cap, cur, h1, h2, by rw [hb.block g hg]; exact h3, h4⟩
theorem owns_baseI {w : World} {base base' : Nat} {e : TypeId} {size : Nat} {v : Value} {n : Nat} {xs : List Value} (h : w.ownsRow base e size v n xs) (hb : base' ≤ base) : w.ownsRow base' e size v n xs := by
  refine ⟨h.1, ?_⟩
  rcases h.2 with h2 | ⟨g, cap, cur, h1, h2, h3, h4⟩
  · exact .inl h2
  · exact .inr ⟨g, cap, cur, h1, Nat.le_trans hb h2, h3, h4⟩
theorem owns_blockI {w : World} {base : Nat} {e : TypeId} {size : Nat} {v : Value} {n : Nat} {xs : List Value} (h : w.ownsRow base e size v n xs) {z : Nat} (hz : v.ownBlock = some z) : base ≤ z := by
  rcases h.2 with ⟨h1, _⟩ | ⟨g2, c3, cur, h1, h2, _⟩
  · rw [h1] at hz; simp [Value.ownBlock] at hz
  · rw [h1] at hz; simp [Value.ownBlock] at hz; omega
/-- Is the number at place k greater than the one ahead of it, and not too great? -/
def nOk (zs : List Int) (k : Nat) : Bool := decide (prvR zs k < gi zs k) && decide (gi zs k ≤ 1000000000)
def ascB (zs : List Int) : Bool := !(anyK (fun k => !(nOk zs k)) zs.length)
/-- Has each a number of its own? -/
def numB (ns : List Int) : Bool := ascB (srt ns)
theorem asc_bad {zs : List Int} {k : Nat} (hk : k < zs.length) (h : nOk zs k = false) : ascB zs = false := by
  unfold ascB; rw [anyK_true (j := k) (by simp [h]) _ hk]; simp
theorem asc_end {zs : List Int} (h : ∀ k, k < zs.length → nOk zs k = true) : ascB zs = true := by
  unfold ascB; rw [(anyK_iff _).2 (fun k hk => by simp [h k hk])]; simp
/-- The numbers of the first k signs. -/
def nosK (l : List Sgn) (k : Nat) : List Int := (l.take k).map (·.n)
theorem nosK_succ (l : List Sgn) {k : Nat} (h : k < l.length) : nosK l (k + 1) = nosK l k ++ [(gs l k).n] := by
  unfold nosK gs; rw [List.take_add_one, List.map_append]; simp [h]
theorem nosK_len (l : List Sgn) {k : Nat} (h : k ≤ l.length) : (nosK l k).length = k := by unfold nosK; simp; omega
set_option maxRecDepth 100000 in
set_option maxHeartbeats 2000000 in
theorem numbered_r (aa : Option Addr) (l : List Sgn) (ca : Nat) (w : World) (hA : SgnS w aa l) (hn : l.length ≤ 100000000) :
    Calls Tryz.prog 112 #[.slice aa l.length ca, .func (.func 113) #[] #[]] w fun e w' => e = .returned (.bool (numB (nosK l l.length))) ∧ Below w.heap.size w w' := by
  obtain ⟨hlen, blk, off, ad, cp, hadr, hc⟩ := hA
  have HC := Lib.hid hc
  have HL : Hid (0 < l.length → aa = some ⟨blk, off, none⟩) := Lib.hid fun h => hadr (pos_ne (n := 0) h)
  have HNS : Hid (∀ k, k < l.length → clI (nosK l (k + 1)) = clI (nosK l k) ++ [.int .i64 (gs l k).n]) := Lib.hid fun k hk => by rw [nosK_succ l hk, clI_app]
  have HNL : Hid (∀ k, k ≤ l.length → (nosK l k).length = k) := Lib.hid fun k hk => nosK_len l hk
  obtain ⟨i0, hi, hz0, hz1, hz2⟩ := info_parts infoInt
  clear hc hadr
  go_enter Tryz.func112, Tryz.ntmps112
  go_wp2_with fail
  go_loopw [5, 13] (fun v i wr => ∃ k : Nat, k ≤ l.length ∧ i = .int .i64 k ∧ (∃ a c, v = .slice a k c) ∧ Hid (wr.ownsRow w.heap.size 3 1 v k (clI (nosK l k))) ∧ Below w.heap.size w wr) (fun _ i _ => l.length - (intOf i).toNat)
  case atStart => exact ⟨0, Nat.zero_le _, rfl, ⟨none, 0, rfl⟩, Lib.hid ⟨rfl, .inl ⟨rfl, rfl⟩⟩, Below.refl _ _⟩
  case round =>
    obtain ⟨k, hk, rfl, ⟨av, cv, rfl⟩, HRow, hbr⟩ := hrel
    by_cases hlt : k < l.length
    · obtain rfl := HL.out (by omega)
      obtain ⟨⟨c0, c1, c2, c3, c4, c5, c6, c7⟩, c8, hpr⟩ := HC.out k hlt
      have c0 := cell_below c0 hbr
      have c1 := cell_below c1 hbr
      have c2 := cell_below c2 hbr
      have c3 := cell_below c3 hbr
      have c4 := cell_below c4 hbr
      have c5 := cell_below c5 hbr
      have c6 := cell_below c6 hbr
      have c7 := cell_below c7 hbr
      have c8 := cell_below c8 hbr
      have HNk := Lib.hid (HNS.out k hlt)
      clear HC HL HNS HNL hpr
      generalize ad k = adk at *
      generalize cp k = cpk at *
      generalize hsk : gs l k = s at *
      clear hsk
      generalize nosK l k = X0 at *
      have HK := Lib.hid (fun W => sg2_r s adk cpk W)
      go_wp2_with fail
      refine (HK.out _).mono ?_
      rintro e w1 ⟨rfl, hb1⟩
      have hb0 : Below w.heap.size w (wr.alloc (.cells #[.int .i64 s.n, .int .i64 s.k, .int .i64 s.v, .int .i64 s.c, .int .i64 s.d, .int .i64 s.rk, .int .i64 s.up, .int .i64 s.dn, .slice adk s.cv.length cpk] 34)) := hbr.alloc hbr.size _
      have hbq := hb0.trans (hb1.mono hb0.size)
      have HRow1 := Lib.hid (owns_belowI (HRow.out.alloc (.cells #[.int .i64 s.n, .int .i64 s.k, .int .i64 s.v, .int .i64 s.c, .int .i64 s.d, .int .i64 s.rk, .int .i64 s.up, .int .i64 s.dn, .slice adk s.cv.length cpk] 34)) hb1)
      clear hb1 hb0 HRow HK c0 c1 c2 c3 c4 c5 c6 c7 c8 hbr
      have hown := Lib.hid (HRow1.out.alloc (.cells #[.int .i64 s.n] 3))
      have hbs := hbq.size
      go_wp2_with (first | (at_builtin; go_loud (refine wpList_append_lies _ rfl _ _ 22 rfl w.heap.size 3 i0 _ 1 8 Tryz.underlying22 hi hz0 hz1 hz2 rfl (by decide) (.slice av k cv) k _ (by rfl) hown.out ⟨w1.heap.size, 0, none⟩ 1 1 [.int .i64 s.n] (by rfl) (by rfl) ?d1 ?d2 (by decide) ?d3 ?d4 ?d5 _ rfl ?_)))
      case d1 =>
        refine World.news_of_block (cs := #[.int .i64 s.n]) (t := 3) (fr := (0, 0)) ?_
        exact heap_alloc_new _ _
      case d2 => simp [Value.oneCell']
      case d3 => unfold maxLen; omega
      case d4 => omega
      case d5 => first | (simp; omega) | simp | omega
      intro g6 c6 w6 hown6 hgrow6 hat6 hlt6
      have hb6 : Below w.heap.size w w6 := ((hbq.alloc hbs _).grown hgrow6 (by first | (simp; omega) | simp | omega) (fun z hz => owns_blockI hown.out hz))
      have HRow6 : Hid (w6.ownsRow w.heap.size 3 1 (.slice (some ⟨g6, 0, none⟩) (k + 1) c6) (k + 1) (clI (nosK l (k + 1)))) := Lib.hid (by rw [HNk.out]; exact hown6)
      clear hown6 hown HRow1 hbq hgrow6 hat6 hlt6 HNk
      go_wp2_with fail
      go_roundw
      case rel => exact ⟨k + 1, by omega, by go_num, ⟨_, c6, rfl⟩, HRow6, hb6⟩
      case measure => simp [intOf]; omega
    · obtain rfl : k = l.length := by omega
      have hle := HNL.out l.length (Nat.le_refl _)
      have HS := Lib.hid (sort_own w.heap.size cv av (nosK l l.length) wr (by rw [hle]; exact HRow.out) (by rw [hle]; exact hn))
      have HZL : Hid ((srt (nosK l l.length)).length = l.length) := Lib.hid ((srt_len _).trans hle)
      have HN : Hid (numB (nosK l l.length) = ascB (srt (nosK l l.length))) := Lib.hid rfl
      rw [hle] at HS
      generalize srt (nosK l l.length) = Z at *
      clear HRow HC HL HNS HNL hle
      have hbs := hbr.size
      go_wp2_with (go_at_call 135; refine HS.out.mono ?_; rintro e w2 ⟨rfl, hown2, hb2⟩)
      have hbz := hbr.trans (hb2 hbs)
      have HOwn := Lib.hid hown2
      clear hown2 hb2 HS hbr
      have HZ : Hid (∀ k, k < l.length → ∃ g, av = some ⟨g, 0, none⟩ ∧ w2.cell? ⟨g, k, none⟩ = some (.int .i64 (gi Z k))) := Lib.hid fun k hk => by
        have hz := HZL.out
        have h := HOwn.out
        rcases h.2 with ⟨h1, h2⟩ | ⟨g2, c2, cur, h1, _⟩
        · omega
        · obtain ⟨rfl, rfl⟩ : av = some ⟨g2, 0, none⟩ ∧ cv = c2 := by simpa using h1
          refine ⟨g2, rfl, ?_⟩
          rw [World.ownsRow.cellAt h k (by omega)]
          exact clI_get Z (by omega)
      have HE : Hid ((∀ k, k < l.length → nOk Z k = true) → ascB Z = true) := Lib.hid fun h => asc_end fun k hk => h k (by rw [← HZL.out]; exact hk)
      have HB : Hid (∀ k, k < l.length → nOk Z k = false → ascB Z = false) := Lib.hid fun k hk h => asc_bad (by rw [HZL.out]; exact hk) h
      have HNK : Hid (∀ k, nOk Z k = (decide (prvR Z k < gi Z k) && decide (gi Z k ≤ 1000000000))) := Lib.hid fun k => rfl
      have HP1 : Hid (∀ k, prvR Z (k + 1) = gi Z k) := Lib.hid fun k => rfl
      have HP0 : Hid (prvR Z 0 = 0) := Lib.hid rfl
      clear HOwn HZL
      generalize ascB Z = AB at *
      go_wp2_with fail
      go_loopw [8, 28] (fun q i wr => ∃ k : Nat, k ≤ l.length ∧ i = .int .i64 k ∧ q = .int .i64 (prvR Z k) ∧ wr = w2 ∧ Hid (∀ j, j < k → nOk Z j = true)) (fun _ i _ => l.length - (intOf i).toNat)
      case atStart => exact ⟨0, Nat.zero_le _, rfl, by rw [HP0.out], rfl, Lib.hid fun j hj => absurd hj (Nat.not_lt_zero _)⟩
      case round =>
        obtain ⟨k, hk, rfl, rfl, rfl, HA⟩ := hrel
        by_cases hlt : k < l.length
        · obtain ⟨g, rfl, cz⟩ := HZ.out k hlt
          have HNk := Lib.hid (HNK.out k)
          have HBk := Lib.hid (HB.out k hlt)
          have HP := Lib.hid (HP1.out k)
          have HA1 : Hid (nOk Z k = true → ∀ j, j < k + 1 → nOk Z j = true) := Lib.hid fun h j hj => by
            by_cases e : j = k
            · subst e; exact h
            · exact HA.out j (by omega)
          clear HZ HE HB HNK HP1 HP0 HA
          generalize prvR Z (k + 1) = x1 at *
          have HP := HP.out
          subst HP
          generalize prvR Z k = x0 at *
          generalize hxx : gi Z k = x at *
          generalize nOk Z k = ok at *
          by_cases h1 : x0 < x
          · by_cases h2 : x ≤ 1000000000
            · have hok : ok = true := by rw [HNk.out, decide_eq_true h1, decide_eq_true h2]; rfl
              have HA1 := Lib.hid (HA1.out hok)
              clear hok HNk HBk
              subst hxx
              go_wp2_with fail
              go_roundw
              case rel => exact ⟨k + 1, by omega, by go_num, by first | rfl | trivial | simp, by first | rfl | trivial, HA1⟩
              case measure => simp [intOf]; omega
            · have hok : ok = false := by rw [HNk.out, decide_eq_false h2]; simp
              have HR := Lib.hid (HBk.out hok)
              clear hok HNk HBk HA1 hxx
              go_wp2_with fail
              go_ret
              exact ⟨by rw [HN.out, HR.out]; rfl, hbz⟩
          · have hok : ok = false := by rw [HNk.out, decide_eq_false h1]; simp
            have HR := Lib.hid (HBk.out hok)
            clear hok HNk HBk HA1 hxx
            go_wp2_with fail
            go_ret
            exact ⟨by rw [HN.out, HR.out]; rfl, hbz⟩
        · obtain rfl : k = l.length := by omega
          have HR := Lib.hid (HE.out HA.out)
          go_wp2_with fail
          go_ret
          exact ⟨by rw [HN.out, HR.out]; rfl, hbz⟩
end Go.Proofs.YtiagflackfkmnaaGreat
