/-
  ContainsFunc over signs; numbered of signs. By an AI agent.; numbered of signs; ValidSigns. By an AI agent.; ValidSigns of package rule. By an AI agent.; Edicts in memory; edictValid of package rule. By an AI agent.; ValidEdicts of package rule. By an AI agent.
-/
import Derived.Test.YtneafbhiencjlaaGreatDoorMgRuleProposed1
import Derived.Deep.RegionHeld3
import Derived.Deep.AppendLies
import Derived.BigQuiet
import Derived.BigRegion

namespace Go.Proofs.YtneafbhiencjlaaGreatDoor
set_option linter.unusedVariables false
set_option linter.unusedSimpArgs false
open Go.RowKit

set_option maxRecDepth 100000 in
set_option maxHeartbeats 1000000 in
theorem idxSg_any (aa : Option Addr) (l : List Sgn) (ca : Nat) (lb : Array Value) (p : Nat → Bool) (w : World) (hA : SgnS w aa l)
    (hp : ∀ j ad cp W, j < l.length → PairsS W ad (gs l j).cv → Below w.heap.size w W → Calls Tryz.prog 44 (#[.agg #[.int .i64 (gs l j).n, .int .i64 (gs l j).k, .int .i64 (gs l j).v, .int .i64 (gs l j).c, .int .i64 (gs l j).d, .int .i64 (gs l j).rk, .int .i64 (gs l j).up, .int .i64 (gs l j).dn, .slice ad (gs l j).cv.length cp]] ++ lb) W fun e w' => e = .returned (.bool (p j)) ∧ Below W.heap.size W w') :
    Calls Tryz.prog 87 #[.slice aa l.length ca, .func (.func 44) #[] lb] w fun e w' => e = .returned (.int .i64 (idxK p l.length)) ∧ Below w.heap.size w w' := by
  obtain ⟨hlen, blk, off, ad, cp, hadr, hc⟩ := hA
  have HP := Lib.hid hp
  have HC := Lib.hid hc
  have HH : Hid (∀ k, k < l.length → p k = true → (∀ j, j < k → p j = false) → idxK p l.length = k) := Lib.hid fun k hk h hb => idxK_hit h hb _ hk
  have HM : Hid ((∀ j, j < l.length → p j = false) → idxK p l.length = -1) := Lib.hid fun h => idxK_miss _ h
  have HL : Hid (0 < l.length → aa = some ⟨blk, off, none⟩) := Lib.hid fun h => hadr (pos_ne (n := 0) h)
  generalize idxK p l.length = R at *
  clear hp hc hadr
  go_enter Tryz.func87, Tryz.ntmps87
  go_wp2_with fail
  go_loopw [8] (fun i wr => ∃ k : Nat, k ≤ l.length ∧ i = .int .i64 k ∧ Below w.heap.size w wr ∧ Hid (∀ j, j < k → p j = false)) (fun i _ => l.length - (intOf i).toNat)
  case atStart => exact ⟨0, Nat.zero_le _, rfl, Below.refl _ _, Lib.hid fun j hj => absurd hj (Nat.not_lt_zero _)⟩
  case round =>
    obtain ⟨k, hk, rfl, hb, HA⟩ := hrel
    by_cases hlt : k < l.length
    · obtain rfl := HL.out (by omega)
      obtain ⟨⟨c0, c1, c2, c3, c4, c5, c6, c7⟩, c8, hpr⟩ := HC.out k hlt
      have c0 := cell_below c0 hb
      have c1 := cell_below c1 hb
      have c2 := cell_below c2 hb
      have c3 := cell_below c3 hb
      have c4 := cell_below c4 hb
      have c5 := cell_below c5 hb
      have c6 := cell_below c6 hb
      have c7 := cell_below c7 hb
      have c8 := cell_below c8 hb
      have HK := Lib.hid (fun W hW => HP.out k (ad k) (cp k) W hlt (hpr.below hW) hW)
      have HHk := Lib.hid (HH.out k hlt)
      have HN : Hid (p k = false → ∀ j, j < k + 1 → p j = false) := Lib.hid fun h j hj => by
        by_cases e : j = k
        · subst e; exact h
        · exact HA.out j (by omega)
      clear HP HC HM HL HH hpr
      generalize ad k = adk at *
      generalize cp k = cpk at *
      generalize gs l k = s at *
      cases hpk : p k with
      | true =>
        have HR := Lib.hid (HHk.out hpk HA.out)
        rw [hpk] at HK
        clear hpk HHk HN
        go_wp2_with fail
        refine (HK.out _ hb).mono ?_
        rintro e w1 ⟨rfl, hb1⟩
        go_wp2_with fail
        go_ret
        rw [HR.out]
        exact ⟨rfl, hb.trans (hb1.mono hb.size)⟩
      | false =>
        have HR := Lib.hid (HN.out hpk)
        rw [hpk] at HK
        clear hpk HHk HN
        go_wp2_with fail
        refine (HK.out _ hb).mono ?_
        rintro e w1 ⟨rfl, hb1⟩
        go_wp2_with fail
        go_roundw
        case rel => exact ⟨k + 1, by omega, by go_num, hb.trans (hb1.mono hb.size), HR⟩
        case measure => simp [intOf]; omega
    · obtain rfl : k = l.length := by omega
      have HR := Lib.hid (HM.out HA.out)
      go_wp2_with fail
      go_ret
      rw [HR.out]
      exact ⟨rfl, hb⟩
set_option maxRecDepth 100000 in
theorem containsSg_any (aa : Option Addr) (l : List Sgn) (ca : Nat) (lb : Array Value) (p : Nat → Bool) (w : World) (hA : SgnS w aa l)
    (hp : ∀ j ad cp W, j < l.length → PairsS W ad (gs l j).cv → Below w.heap.size w W → Calls Tryz.prog 44 (#[.agg #[.int .i64 (gs l j).n, .int .i64 (gs l j).k, .int .i64 (gs l j).v, .int .i64 (gs l j).c, .int .i64 (gs l j).d, .int .i64 (gs l j).rk, .int .i64 (gs l j).up, .int .i64 (gs l j).dn, .slice ad (gs l j).cv.length cp]] ++ lb) W fun e w' => e = .returned (.bool (p j)) ∧ Below W.heap.size W w') :
    Calls Tryz.prog 43 #[.slice aa l.length ca, .func (.func 44) #[] lb] w fun e w' => e = .returned (.bool (anyK p l.length)) ∧ Below w.heap.size w w' := by
  have H := Lib.hid (idxSg_any aa l ca lb p w hA hp)
  have hq := Lib.hid (idxK_any p l.length)
  clear hp hA
  generalize idxK p l.length = R at *
  generalize anyK p l.length = B at *
  have hq := hq.out
  subst hq
  go_enter Tryz.func43, Tryz.ntmps43
  go_wp2_with fail
  refine H.out.mono ?_
  rintro e w1 ⟨rfl, hb1⟩
  go_wp2_with fail
  all_goals
    go_ret
    exact ⟨by simp_all, hb1⟩
set_option maxRecDepth 100000 in
theorem sg1_r (L : Int) (a : Option Addr) (js : List Int) (ca B : Nat) (s : Sgn) (ad : Option Addr) (cp : Nat) (w : World) (hP : PairsS w ad s.cv) (hB : B < w.heap.size) (c0 : w.cell? ⟨B, 0, none⟩ = some (.int .i64 L)) (c1 : w.cell? ⟨B, 1, none⟩ = some (.slice a js.length ca)) :
    Calls Tryz.prog 44 (#[.agg #[.int .i64 s.n, .int .i64 s.k, .int .i64 s.v, .int .i64 s.c, .int .i64 s.d, .int .i64 s.rk, .int .i64 s.up, .int .i64 s.dn, .slice ad s.cv.length cp]] ++ #[.pointer (some ⟨B, 0, none⟩)]) w fun e w' => e = .returned (.bool (!(sgnB L s))) ∧ Below w.heap.size w w' := by
  have H := Lib.hid (fun W (hW : Below w.heap.size w W) => signValid_r L a js ca s ad cp W (hP.below hW))
  generalize sgnB L s = b at *
  have hq : Hid (∀ c t o, o < 2 → (w.alloc (.cells c t)).cell? ⟨B, o, none⟩ = w.cell? ⟨B, o, none⟩) := Lib.hid fun c t o _ => ((Below.refl w.heap.size w).alloc (Nat.le_refl _) _).cell (p := ⟨B, o, none⟩) hB
  have q0 : ∀ c t, (w.alloc (.cells c t)).cell? ⟨B, 0, none⟩ = some (.int .i64 L) := fun c t => (hq.out c t 0 (by omega)).trans c0
  have q1 : ∀ c t, (w.alloc (.cells c t)).cell? ⟨B, 1, none⟩ = some (.slice a js.length ca) := fun c t => (hq.out c t 1 (by omega)).trans c1
  clear hP hq
  go_enter Tryz.func44, Tryz.ntmps44
  go_wp2_with (go_at_call 45; refine (H.out _ ((Below.refl _ _).alloc (Nat.le_refl _) _)).mono ?_; rintro e w' ⟨rfl, hb⟩)
  go_ret
  exact ⟨rfl, below_onR ((Below.refl _ _).alloc (Nat.le_refl _) _) hb⟩
set_option maxRecDepth 100000 in
theorem sg2_r (s : Sgn) (ad : Option Addr) (cp : Nat) (w : World) :
    Calls Tryz.prog 47 #[.agg #[.int .i64 s.n, .int .i64 s.k, .int .i64 s.v, .int .i64 s.c, .int .i64 s.d, .int .i64 s.rk, .int .i64 s.up, .int .i64 s.dn, .slice ad s.cv.length cp]] w fun e w' => e = .returned (.int .i64 s.n) ∧ Below w.heap.size w w' := by
  go_enter Tryz.func47, Tryz.ntmps47
  go_wp2_with fail
  go_ret
  exact ⟨rfl, (Below.refl _ _).alloc (Nat.le_refl _) _⟩
end Go.Proofs.YtneafbhiencjlaaGreatDoor

namespace Go.Proofs.YtneafbhiencjlaaGreatDoor
set_option linter.unusedVariables false
set_option linter.unusedSimpArgs false
open Go.RowKit

theorem owns_belowI {w w' : World} {base : Nat} {e : TypeId} {size : Nat} {v : Value} {n : Nat} {xs : List Value} (h : w.ownsRow base e size v n xs) (hb : Below w.heap.size w w') : w'.ownsRow base e size v n xs := by
  refine ⟨h.1, ?_⟩
  rcases h.2 with h2 | ⟨g, cap, cur, h1, h2, h3, h4⟩
  · exact .inl h2
  · have hg : g < w.heap.size := (Array.getElem?_eq_some_iff.1 h3).1
    exact .inr ⟨g, cap, cur, h1, h2, by rw [hb.block g hg]; exact h3, h4⟩
theorem owns_baseI {w : World} {base base' : Nat} {e : TypeId} {size : Nat} {v : Value} {n : Nat} {xs : List Value} (h : w.ownsRow base e size v n xs) (hb : base' ≤ base) : w.ownsRow base' e size v n xs := by
  refine ⟨h.1, ?_⟩
  rcases h.2 with h2 | ⟨g, cap, cur, h1, h2, h3, h4⟩
  · exact .inl h2
  · exact .inr ⟨g, cap, cur, h1, Nat.le_trans hb h2, h3, h4⟩
theorem owns_blockI {w : World} {base : Nat} {e : TypeId} {size : Nat} {v : Value} {n : Nat} {xs : List Value} (h : w.ownsRow base e size v n xs) {z : Nat} (hz : v.ownBlock = some z) : base ≤ z := by
  rcases h.2 with ⟨h1, _⟩ | ⟨g2, c3, cur, h1, h2, _⟩
  · rw [h1] at hz; simp [Value.ownBlock] at hz
  · rw [h1] at hz; simp [Value.ownBlock] at hz; omega
/-- Is the number at place k greater than the one ahead of it, and not too great? -/
def nOk (zs : List Int) (k : Nat) : Bool := decide (prvR zs k < gi zs k) && decide (gi zs k ≤ 1000000000)
def ascB (zs : List Int) : Bool := !(anyK (fun k => !(nOk zs k)) zs.length)
/-- Has each a number of its own? -/
def numB (ns : List Int) : Bool := ascB (srt ns)
theorem asc_bad {zs : List Int} {k : Nat} (hk : k < zs.length) (h : nOk zs k = false) : ascB zs = false := by
  unfold ascB; rw [anyK_true (j := k) (by simp [h]) _ hk]; simp
theorem asc_end {zs : List Int} (h : ∀ k, k < zs.length → nOk zs k = true) : ascB zs = true := by
  unfold ascB; rw [(anyK_iff _).2 (fun k hk => by simp [h k hk])]; simp
/-- The numbers of the first k signs. -/
def nosK (l : List Sgn) (k : Nat) : List Int := (l.take k).map (·.n)
theorem nosK_succ (l : List Sgn) {k : Nat} (h : k < l.length) : nosK l (k + 1) = nosK l k ++ [(gs l k).n] := by
  unfold nosK gs; rw [List.take_add_one, List.map_append]; simp [h]
theorem nosK_len (l : List Sgn) {k : Nat} (h : k ≤ l.length) : (nosK l k).length = k := by unfold nosK; simp; omega
set_option maxRecDepth 100000 in
set_option maxHeartbeats 2000000 in
theorem numbered_r (aa : Option Addr) (l : List Sgn) (ca : Nat) (w : World) (hA : SgnS w aa l) (hn : l.length ≤ 100000000) :
    Calls Tryz.prog 46 #[.slice aa l.length ca, .func (.func 47) #[] #[]] w fun e w' => e = .returned (.bool (numB (nosK l l.length))) ∧ Below w.heap.size w w' := by
  obtain ⟨hlen, blk, off, ad, cp, hadr, hc⟩ := hA
  have HC := Lib.hid hc
  have HL : Hid (0 < l.length → aa = some ⟨blk, off, none⟩) := Lib.hid fun h => hadr (pos_ne (n := 0) h)
  have HNS : Hid (∀ k, k < l.length → clI (nosK l (k + 1)) = clI (nosK l k) ++ [.int .i64 (gs l k).n]) := Lib.hid fun k hk => by rw [nosK_succ l hk, clI_app]
  have HNL : Hid (∀ k, k ≤ l.length → (nosK l k).length = k) := Lib.hid fun k hk => nosK_len l hk
  obtain ⟨i0, hi, hz0, hz1, hz2⟩ := info_parts infoInt
  clear hc hadr
  go_enter Tryz.func46, Tryz.ntmps46
  go_wp2_with fail
  go_loopw [5, 13] (fun v i wr => ∃ k : Nat, k ≤ l.length ∧ i = .int .i64 k ∧ (∃ a c, v = .slice a k c) ∧ Hid (wr.ownsRow w.heap.size 3 1 v k (clI (nosK l k))) ∧ Below w.heap.size w wr) (fun _ i _ => l.length - (intOf i).toNat)
  case atStart => exact ⟨0, Nat.zero_le _, rfl, ⟨none, 0, rfl⟩, Lib.hid ⟨rfl, .inl ⟨rfl, rfl⟩⟩, Below.refl _ _⟩
  case round =>
    obtain ⟨k, hk, rfl, ⟨av, cv, rfl⟩, HRow, hbr⟩ := hrel
    by_cases hlt : k < l.length
    · obtain rfl := HL.out (by omega)
      obtain ⟨⟨c0, c1, c2, c3, c4, c5, c6, c7⟩, c8, hpr⟩ := HC.out k hlt
      have c0 := cell_below c0 hbr
      have c1 := cell_below c1 hbr
      have c2 := cell_below c2 hbr
      have c3 := cell_below c3 hbr
      have c4 := cell_below c4 hbr
      have c5 := cell_below c5 hbr
      have c6 := cell_below c6 hbr
      have c7 := cell_below c7 hbr
      have c8 := cell_below c8 hbr
      have HNk := Lib.hid (HNS.out k hlt)
      clear HC HL HNS HNL hpr
      generalize ad k = adk at *
      generalize cp k = cpk at *
      generalize hsk : gs l k = s at *
      clear hsk
      generalize nosK l k = X0 at *
      have HK := Lib.hid (fun W => sg2_r s adk cpk W)
      go_wp2_with fail
      refine (HK.out _).mono ?_
      rintro e w1 ⟨rfl, hb1⟩
      have hb0 : Below w.heap.size w (wr.alloc (.cells #[.int .i64 s.n, .int .i64 s.k, .int .i64 s.v, .int .i64 s.c, .int .i64 s.d, .int .i64 s.rk, .int .i64 s.up, .int .i64 s.dn, .slice adk s.cv.length cpk] 51)) := hbr.alloc hbr.size _
      have hbq := hb0.trans (hb1.mono hb0.size)
      have HRow1 := Lib.hid (owns_belowI (HRow.out.alloc (.cells #[.int .i64 s.n, .int .i64 s.k, .int .i64 s.v, .int .i64 s.c, .int .i64 s.d, .int .i64 s.rk, .int .i64 s.up, .int .i64 s.dn, .slice adk s.cv.length cpk] 51)) hb1)
      clear hb1 hb0 HRow HK c0 c1 c2 c3 c4 c5 c6 c7 c8 hbr
      have hown := Lib.hid (HRow1.out.alloc (.cells #[.int .i64 s.n] 3))
      have hbs := hbq.size
      go_wp2_with (first | (at_builtin; go_loud (refine wpList_append_lies _ rfl _ _ 22 rfl w.heap.size 3 i0 _ 1 8 Tryz.underlying22 hi hz0 hz1 hz2 rfl (by decide) (.slice av k cv) k _ (by rfl) hown.out ⟨w1.heap.size, 0, none⟩ 1 1 [.int .i64 s.n] (by rfl) (by rfl) ?d1 ?d2 (by decide) ?d3 ?d4 ?d5 _ rfl ?_)))
      case d1 =>
        refine World.news_of_block (cs := #[.int .i64 s.n]) (t := 3) (fr := (0, 0)) ?_
        exact heap_alloc_new _ _
      case d2 => simp [Value.oneCell']
      case d3 => unfold maxLen; omega
      case d4 => omega
      case d5 => first | (simp; omega) | simp | omega
      intro g6 c6 w6 hown6 hgrow6 hat6 hlt6
      have hb6 : Below w.heap.size w w6 := ((hbq.alloc hbs _).grown hgrow6 (by first | (simp; omega) | simp | omega) (fun z hz => owns_blockI hown.out hz))
      have HRow6 : Hid (w6.ownsRow w.heap.size 3 1 (.slice (some ⟨g6, 0, none⟩) (k + 1) c6) (k + 1) (clI (nosK l (k + 1)))) := Lib.hid (by rw [HNk.out]; exact hown6)
      clear hown6 hown HRow1 hbq hgrow6 hat6 hlt6 HNk
      go_wp2_with fail
      go_roundw
      case rel => exact ⟨k + 1, by omega, by go_num, ⟨_, c6, rfl⟩, HRow6, hb6⟩
      case measure => simp [intOf]; omega
    · obtain rfl : k = l.length := by omega
      have hle := HNL.out l.length (Nat.le_refl _)
      have HS := Lib.hid (sort_own w.heap.size cv av (nosK l l.length) wr (by rw [hle]; exact HRow.out) (by rw [hle]; exact hn))
      have HZL : Hid ((srt (nosK l l.length)).length = l.length) := Lib.hid ((srt_len _).trans hle)
      have HN : Hid (numB (nosK l l.length) = ascB (srt (nosK l l.length))) := Lib.hid rfl
      rw [hle] at HS
      generalize srt (nosK l l.length) = Z at *
      clear HRow HC HL HNS HNL hle
      have hbs := hbr.size
      go_wp2_with (go_at_call 92; refine HS.out.mono ?_; rintro e w2 ⟨rfl, hown2, hb2⟩)
      have hbz := hbr.trans (hb2 hbs)
      have HOwn := Lib.hid hown2
      clear hown2 hb2 HS hbr
      have HZ : Hid (∀ k, k < l.length → ∃ g, av = some ⟨g, 0, none⟩ ∧ w2.cell? ⟨g, k, none⟩ = some (.int .i64 (gi Z k))) := Lib.hid fun k hk => by
        have hz := HZL.out
        have h := HOwn.out
        rcases h.2 with ⟨h1, h2⟩ | ⟨g2, c2, cur, h1, _⟩
        · omega
        · obtain ⟨rfl, rfl⟩ : av = some ⟨g2, 0, none⟩ ∧ cv = c2 := by simpa using h1
          refine ⟨g2, rfl, ?_⟩
          rw [World.ownsRow.cellAt h k (by omega)]
          exact clI_get Z (by omega)
      have HE : Hid ((∀ k, k < l.length → nOk Z k = true) → ascB Z = true) := Lib.hid fun h => asc_end fun k hk => h k (by rw [← HZL.out]; exact hk)
      have HB : Hid (∀ k, k < l.length → nOk Z k = false → ascB Z = false) := Lib.hid fun k hk h => asc_bad (by rw [HZL.out]; exact hk) h
      have HNK : Hid (∀ k, nOk Z k = (decide (prvR Z k < gi Z k) && decide (gi Z k ≤ 1000000000))) := Lib.hid fun k => rfl
      have HP1 : Hid (∀ k, prvR Z (k + 1) = gi Z k) := Lib.hid fun k => rfl
      have HP0 : Hid (prvR Z 0 = 0) := Lib.hid rfl
      clear HOwn HZL
      generalize ascB Z = AB at *
      go_wp2_with fail
      go_loopw [8, 28] (fun q i wr => ∃ k : Nat, k ≤ l.length ∧ i = .int .i64 k ∧ q = .int .i64 (prvR Z k) ∧ wr = w2 ∧ Hid (∀ j, j < k → nOk Z j = true)) (fun _ i _ => l.length - (intOf i).toNat)
      case atStart => exact ⟨0, Nat.zero_le _, rfl, by rw [HP0.out], rfl, Lib.hid fun j hj => absurd hj (Nat.not_lt_zero _)⟩
      case round =>
        obtain ⟨k, hk, rfl, rfl, rfl, HA⟩ := hrel
        by_cases hlt : k < l.length
        · obtain ⟨g, rfl, cz⟩ := HZ.out k hlt
          have HNk := Lib.hid (HNK.out k)
          have HBk := Lib.hid (HB.out k hlt)
          have HP := Lib.hid (HP1.out k)
          have HA1 : Hid (nOk Z k = true → ∀ j, j < k + 1 → nOk Z j = true) := Lib.hid fun h j hj => by
            by_cases e : j = k
            · subst e; exact h
            · exact HA.out j (by omega)
          clear HZ HE HB HNK HP1 HP0 HA
          generalize prvR Z (k + 1) = x1 at *
          have HP := HP.out
          subst HP
          generalize prvR Z k = x0 at *
          generalize hxx : gi Z k = x at *
          generalize nOk Z k = ok at *
          by_cases h1 : x0 < x
          · by_cases h2 : x ≤ 1000000000
            · have hok : ok = true := by rw [HNk.out, decide_eq_true h1, decide_eq_true h2]; rfl
              have HA1 := Lib.hid (HA1.out hok)
              clear hok HNk HBk
              subst hxx
              go_wp2_with fail
              go_roundw
              case rel => exact ⟨k + 1, by omega, by go_num, by first | rfl | trivial | simp, by first | rfl | trivial, HA1⟩
              case measure => simp [intOf]; omega
            · have hok : ok = false := by rw [HNk.out, decide_eq_false h2]; simp
              have HR := Lib.hid (HBk.out hok)
              clear hok HNk HBk HA1 hxx
              go_wp2_with fail
              go_ret
              exact ⟨by rw [HN.out, HR.out]; rfl, hbz⟩
          · have hok : ok = false := by rw [HNk.out, decide_eq_false h1]; simp
            have HR := Lib.hid (HBk.out hok)
            clear hok HNk HBk HA1 hxx
            go_wp2_with fail
            go_ret
            exact ⟨by rw [HN.out, HR.out]; rfl, hbz⟩
        · obtain rfl : k = l.length := by omega
          have HR := Lib.hid (HE.out HA.out)
          go_wp2_with fail
          go_ret
          exact ⟨by rw [HN.out, HR.out]; rfl, hbz⟩
end Go.Proofs.YtneafbhiencjlaaGreatDoor

namespace Go.Proofs.YtneafbhiencjlaaGreatDoor
set_option linter.unusedVariables false
set_option linter.unusedSimpArgs false
open Go.RowKit

/-- Are all signs right, their numbers aside? -/
def allB (L : Int) (l : List Sgn) : Bool := !(anyK (fun j => !(sgnB L (gs l j))) l.length)
/-- Are signs valid for a line? -/
def sgnsB (L : Int) (js : List Int) (l : List Sgn) : Bool := lineB L js && decide (l.length ≤ 100) && allB L l && numB (nosK l l.length)
set_option maxRecDepth 100000 in
set_option maxHeartbeats 1000000 in
theorem ValidSigns_r (L : Int) (a : Option Addr) (js : List Int) (ca : Nat) (aa : Option Addr) (l : List Sgn) (cl : Nat) (w : World) (hI : IntsS w a js) (hA : SgnS w aa l) :
    Calls Tryz.prog 12 #[.agg #[.int .i64 L, .slice a js.length ca], .slice aa l.length cl] w fun e w' => e = .returned (.bool (sgnsB L js l)) ∧ Below w.heap.size w w' := by
  have H1 := Lib.hid (fun W (hW : Below w.heap.size w W) => ValidLine_r L a js ca W (hI.below hW))
  have H2 := Lib.hid (fun W (hW : Below w.heap.size w W) (hB : w.heap.size < W.heap.size) (c0 : W.cell? ⟨w.heap.size, 0, none⟩ = some (.int .i64 L)) (c1 : W.cell? ⟨w.heap.size, 1, none⟩ = some (.slice a js.length ca)) => containsSg_any aa l cl #[.pointer (some ⟨w.heap.size, 0, none⟩)] (fun j => !(sgnB L (gs l j))) W (hA.below hW) (fun j ad cp W' hj hp hW' => sg1_r L a js ca w.heap.size (gs l j) ad cp W' hp (Nat.lt_of_lt_of_le hB hW'.size) (cell_below c0 hW') (cell_below c1 hW')))
  have H3 := Lib.hid (fun W (hW : Below w.heap.size w W) (h : l.length ≤ 100000000) => numbered_r aa l cl W (hA.below hW) h)
  have hlen := hA.1
  have HV : Hid (sgnsB L js l = (lineB L js && decide (l.length ≤ 100) && allB L l && numB (nosK l l.length))) := Lib.hid rfl
  have hcv : anyK (fun j => !(sgnB L (gs l j))) l.length = !(allB L l) := by unfold allB; simp
  rw [hcv] at H2
  clear hcv hI hA
  cases g0 : lineB L js with
  | false =>
    rw [g0] at H1
    have HR : Hid (sgnsB L js l = false) := Lib.hid (by rw [HV.out, g0]; simp)
    clear HV H2 H3 g0
    go_enter Tryz.func12, Tryz.ntmps12
    go_wp2_with fail
    obtain ⟨wB, hwB⟩ : ∃ wB, w.alloc (.cells #[.int .i64 L, .slice a js.length ca] 24) = wB := ⟨_, rfl⟩
    have hb : Below w.heap.size w wB := by rw [← hwB]; exact (Below.refl _ _).alloc (Nat.le_refl _) _
    have hz : w.heap.size < wB.heap.size := by rw [← hwB]; simp
    have p0 : wB.cell? ⟨w.heap.size, 0, none⟩ = some (.int .i64 L) := by rw [← hwB]; simp [go_sem]
    have p1 : wB.cell? ⟨w.heap.size, 1, none⟩ = some (.slice a js.length ca) := by rw [← hwB]; simp [go_sem]
    rw [hwB]
    clear hwB

    go_wp2_with (go_at_call 42; refine (H1.out _ hb).mono ?_; rintro e w7 ⟨rfl, hb7⟩)
    go_ret
    exact ⟨by rw [HR.out]; rfl, below_onR hb hb7⟩
  | true =>
    rw [g0] at H1
    by_cases h100 : l.length ≤ 100
    · have d100 : decide ((l.length : Int) ≤ 100) = true := decide_eq_true (by omega)
      cases g1 : allB L l with
      | false =>
        rw [g1] at H2
        have HR : Hid (sgnsB L js l = false) := Lib.hid (by rw [HV.out, g0, g1]; simp)
        clear HV H3 g0 g1
        go_enter Tryz.func12, Tryz.ntmps12
        go_wp2_with fail
        obtain ⟨wB, hwB⟩ : ∃ wB, w.alloc (.cells #[.int .i64 L, .slice a js.length ca] 24) = wB := ⟨_, rfl⟩
        have hb : Below w.heap.size w wB := by rw [← hwB]; exact (Below.refl _ _).alloc (Nat.le_refl _) _
        have hz : w.heap.size < wB.heap.size := by rw [← hwB]; simp
        have p0 : wB.cell? ⟨w.heap.size, 0, none⟩ = some (.int .i64 L) := by rw [← hwB]; simp [go_sem]
        have p1 : wB.cell? ⟨w.heap.size, 1, none⟩ = some (.slice a js.length ca) := by rw [← hwB]; simp [go_sem]
        rw [hwB]
        clear hwB

        go_wp2_with (go_at_call 42; refine (H1.out _ hb).mono ?_; rintro e w7 ⟨rfl, hb7⟩; have hz7 := hb7.size; have p07 := cell_below p0 hb7; have p17 := cell_below p1 hb7)
        refine (H2.out _ (below_onR hb hb7) (by omega) p07 p17).mono ?_
        rintro e w8 ⟨rfl, hb8⟩
        go_wp2_with fail
        go_ret
        exact ⟨by rw [HR.out]; rfl, below_onR (below_onR hb hb7) hb8⟩
      | true =>
        rw [g1] at H2
        have HR : Hid (sgnsB L js l = numB (nosK l l.length)) := Lib.hid (by rw [HV.out, g0, g1, decide_eq_true h100]; simp)
        clear HV g0 g1
        go_enter Tryz.func12, Tryz.ntmps12
        go_wp2_with fail
        obtain ⟨wB, hwB⟩ : ∃ wB, w.alloc (.cells #[.int .i64 L, .slice a js.length ca] 24) = wB := ⟨_, rfl⟩
        have hb : Below w.heap.size w wB := by rw [← hwB]; exact (Below.refl _ _).alloc (Nat.le_refl _) _
        have hz : w.heap.size < wB.heap.size := by rw [← hwB]; simp
        have p0 : wB.cell? ⟨w.heap.size, 0, none⟩ = some (.int .i64 L) := by rw [← hwB]; simp [go_sem]
        have p1 : wB.cell? ⟨w.heap.size, 1, none⟩ = some (.slice a js.length ca) := by rw [← hwB]; simp [go_sem]
        rw [hwB]
        clear hwB

        go_wp2_with (go_at_call 42; refine (H1.out _ hb).mono ?_; rintro e w7 ⟨rfl, hb7⟩; have hz7 := hb7.size; have p07 := cell_below p0 hb7; have p17 := cell_below p1 hb7)
        refine (H2.out _ (below_onR hb hb7) (by omega) p07 p17).mono ?_
        rintro e w8 ⟨rfl, hb8⟩
        have hbA := below_onR (below_onR hb hb7) hb8
        generalize numB (nosK l l.length) = NB at *
        go_wp2_with fail
        refine (H3.out _ hbA (by omega)).mono ?_
        rintro e w9 ⟨rfl, hb9⟩
        go_wp2_with fail
        go_ret
        exact ⟨by rw [HR.out]; cases NB <;> rfl, below_onR hbA hb9⟩
    · have d100 : decide ((l.length : Int) ≤ 100) = false := decide_eq_false (by omega)
      have HR : Hid (sgnsB L js l = false) := Lib.hid (by rw [HV.out, g0, decide_eq_false h100]; simp)
      clear HV H2 H3 g0
      go_enter Tryz.func12, Tryz.ntmps12
      go_wp2_with fail
      obtain ⟨wB, hwB⟩ : ∃ wB, w.alloc (.cells #[.int .i64 L, .slice a js.length ca] 24) = wB := ⟨_, rfl⟩
      have hb : Below w.heap.size w wB := by rw [← hwB]; exact (Below.refl _ _).alloc (Nat.le_refl _) _
      have hz : w.heap.size < wB.heap.size := by rw [← hwB]; simp
      have p0 : wB.cell? ⟨w.heap.size, 0, none⟩ = some (.int .i64 L) := by rw [← hwB]; simp [go_sem]
      have p1 : wB.cell? ⟨w.heap.size, 1, none⟩ = some (.slice a js.length ca) := by rw [← hwB]; simp [go_sem]
      rw [hwB]
      clear hwB

      go_wp2_with (go_at_call 42; refine (H1.out _ hb).mono ?_; rintro e w7 ⟨rfl, hb7⟩)
      go_ret
      exact ⟨by rw [HR.out]; rfl, below_onR hb hb7⟩
end Go.Proofs.YtneafbhiencjlaaGreatDoor

namespace Go.Proofs.YtneafbhiencjlaaGreatDoor
set_option linter.unusedVariables false
set_option linter.unusedSimpArgs false
open Go.RowKit

/-- An edict. -/
structure Edc where
  n : Int
  tp : Int
  v : Int
  d : Int
  fr : Int
  tt : Int
  st : Int
  en : Int
def ge (l : List Edc) (i : Nat) : Edc := l.getD i ⟨0, 0, 0, 0, 0, 0, 0, 0⟩
/-- A slice of edicts. -/
def EdS (w : World) (a : Option Addr) (l : List Edc) : Prop :=
  l.length ≤ 9223372036854775807 ∧ ∃ (blk off : Nat), (l ≠ [] → a = some ⟨blk, off, none⟩) ∧ ∀ i, i < l.length → (w.cell? ⟨blk, off + i * 8, none⟩ = some (.int .i64 (ge l i).n) ∧ w.cell? ⟨blk, off + i * 8 + 1, none⟩ = some (.int .i64 (ge l i).tp) ∧ w.cell? ⟨blk, off + i * 8 + 2, none⟩ = some (.int .i64 (ge l i).v) ∧ w.cell? ⟨blk, off + i * 8 + 3, none⟩ = some (.int .i64 (ge l i).d) ∧ w.cell? ⟨blk, off + i * 8 + 4, none⟩ = some (.int .i64 (ge l i).fr) ∧ w.cell? ⟨blk, off + i * 8 + 5, none⟩ = some (.int .i64 (ge l i).tt) ∧ w.cell? ⟨blk, off + i * 8 + 6, none⟩ = some (.int .i64 (ge l i).st) ∧ w.cell? ⟨blk, off + i * 8 + 7, none⟩ = some (.int .i64 (ge l i).en))
theorem EdS.below {w w' : World} {a : Option Addr} {l : List Edc} (h : EdS w a l) (hb : Below w.heap.size w w') : EdS w' a l := by
  obtain ⟨h0, blk, off, h2, h3⟩ := h
  exact ⟨h0, blk, off, h2, fun i hi => by
    obtain ⟨c0, c1, c2, c3, c4, c5, c6, c7⟩ := h3 i hi
    exact ⟨cell_below c0 hb, cell_below c1 hb, cell_below c2 hb, cell_below c3 hb, cell_below c4 hb, cell_below c5 hb, cell_below c6 hb, cell_below c7 hb⟩⟩
/-- May a topic have a value? -/
def edV (tp v : Int) : Bool := (tp == 1 && btw v 10 200) || (tp == 2 && v == 1)
/-- Is an edict valid, its number aside? -/
def edcB (L : Int) (s : Edc) : Bool := edV s.tp s.v && dirB s.d && decide (0 ≤ s.fr) && decide (s.fr < s.tt) && decide (s.tt ≤ L) && timeB s.st s.en
set_option maxRecDepth 100000 in
set_option maxHeartbeats 2000000 in
theorem edictValid_r (L : Int) (a : Option Addr) (js : List Int) (ca : Nat) (s : Edc) (w : World) :
    Calls Tryz.prog 98 #[.agg #[.int .i64 L, .slice a js.length ca], .agg #[.int .i64 s.n, .int .i64 s.tp, .int .i64 s.v, .int .i64 s.d, .int .i64 s.fr, .int .i64 s.tt, .int .i64 s.st, .int .i64 s.en]] w fun e w' => e = .returned (.bool (edcB L s)) ∧ Below w.heap.size w w' := by
  obtain ⟨n, tp, v, d, fr, tt, st, en⟩ := s
  simp only []
  have H1 := Lib.hid (fun W => within_r 10 200 v W)
  have H2 := Lib.hid (fun W => isDir_r d W)
  have H4 := Lib.hid (fun W => isTime_r st en W)
  by_cases h1 : tp = 1
  · subst h1
    cases g0 : btw v 10 200 with
    | true =>
      rw [g0] at H1
      have gv : edV 1 v = true := by unfold edV; rw [g0]; rfl
      cases g1 : dirB d with
      | false =>
        rw [g1] at H2
        have HR : Hid (edcB L ⟨n, 1, v, d, fr, tt, st, en⟩ = false) := Lib.hid (by unfold edcB; simp only []; rw [gv, g1]; simp)
        clear g0 gv g1
        go_enter Tryz.func98, Tryz.ntmps98
        go_wp2_with fail
        obtain ⟨wB, hwB⟩ : ∃ wB, (w.alloc (.cells #[.int .i64 L, .slice a js.length ca] 24)).alloc (.cells #[.int .i64 n, .int .i64 1, .int .i64 v, .int .i64 d, .int .i64 fr, .int .i64 tt, .int .i64 st, .int .i64 en] 104) = wB := ⟨_, rfl⟩
        have hb : Below w.heap.size w wB := by rw [← hwB]; exact ((Below.refl _ _).alloc (Nat.le_refl _) _).alloc (by simp) _
        have p0 : wB.cell? ⟨w.heap.size, 0, none⟩ = some (.int .i64 L) := by rw [← hwB]; simp [go_sem]
        have q1 : wB.cell? ⟨w.heap.size + 1, 1, none⟩ = some (.int .i64 1) := by rw [← hwB]; simp [go_sem]
        have q2 : wB.cell? ⟨w.heap.size + 1, 2, none⟩ = some (.int .i64 v) := by rw [← hwB]; simp [go_sem]
        have q3 : wB.cell? ⟨w.heap.size + 1, 3, none⟩ = some (.int .i64 d) := by rw [← hwB]; simp [go_sem]
        have q4 : wB.cell? ⟨w.heap.size + 1, 4, none⟩ = some (.int .i64 fr) := by rw [← hwB]; simp [go_sem]
        have q5 : wB.cell? ⟨w.heap.size + 1, 5, none⟩ = some (.int .i64 tt) := by rw [← hwB]; simp [go_sem]
        have q6 : wB.cell? ⟨w.heap.size + 1, 6, none⟩ = some (.int .i64 st) := by rw [← hwB]; simp [go_sem]
        have q7 : wB.cell? ⟨w.heap.size + 1, 7, none⟩ = some (.int .i64 en) := by rw [← hwB]; simp [go_sem]
        rw [hwB]
        clear hwB
        go_wp2_with (first | (go_at_call 59; refine (H1.out _).mono ?_; rintro e w7 ⟨rfl, rfl⟩) | (go_at_call 55; refine (H2.out _).mono ?_; rintro e w7 ⟨rfl, rfl⟩) | (go_at_call 89; refine (H4.out _).mono ?_; rintro e w7 ⟨rfl, rfl⟩))
        go_ret
        exact ⟨by rw [HR.out]; rfl, hb⟩
      | true =>
        rw [g1] at H2
        by_cases f0 : 0 ≤ fr
        · by_cases f1 : fr < tt
          · by_cases f2 : tt ≤ L
            · have HT : Hid (∀ z, timeB st en = z → edcB L ⟨n, 1, v, d, fr, tt, st, en⟩ = z) := Lib.hid (fun z hz => by unfold edcB; simp only []; rw [gv, g1, decide_eq_true f0, decide_eq_true f1, decide_eq_true f2, hz]; simp)
              have HR := Lib.hid (HT.out _ rfl)
              clear HT g0 gv g1
              generalize timeB st en = B at *
              go_enter Tryz.func98, Tryz.ntmps98
              go_wp2_with fail
              obtain ⟨wB, hwB⟩ : ∃ wB, (w.alloc (.cells #[.int .i64 L, .slice a js.length ca] 24)).alloc (.cells #[.int .i64 n, .int .i64 1, .int .i64 v, .int .i64 d, .int .i64 fr, .int .i64 tt, .int .i64 st, .int .i64 en] 104) = wB := ⟨_, rfl⟩
              have hb : Below w.heap.size w wB := by rw [← hwB]; exact ((Below.refl _ _).alloc (Nat.le_refl _) _).alloc (by simp) _
              have p0 : wB.cell? ⟨w.heap.size, 0, none⟩ = some (.int .i64 L) := by rw [← hwB]; simp [go_sem]
              have q1 : wB.cell? ⟨w.heap.size + 1, 1, none⟩ = some (.int .i64 1) := by rw [← hwB]; simp [go_sem]
              have q2 : wB.cell? ⟨w.heap.size + 1, 2, none⟩ = some (.int .i64 v) := by rw [← hwB]; simp [go_sem]
              have q3 : wB.cell? ⟨w.heap.size + 1, 3, none⟩ = some (.int .i64 d) := by rw [← hwB]; simp [go_sem]
              have q4 : wB.cell? ⟨w.heap.size + 1, 4, none⟩ = some (.int .i64 fr) := by rw [← hwB]; simp [go_sem]
              have q5 : wB.cell? ⟨w.heap.size + 1, 5, none⟩ = some (.int .i64 tt) := by rw [← hwB]; simp [go_sem]
              have q6 : wB.cell? ⟨w.heap.size + 1, 6, none⟩ = some (.int .i64 st) := by rw [← hwB]; simp [go_sem]
              have q7 : wB.cell? ⟨w.heap.size + 1, 7, none⟩ = some (.int .i64 en) := by rw [← hwB]; simp [go_sem]
              rw [hwB]
              clear hwB
              go_wp2_with (first | (go_at_call 59; refine (H1.out _).mono ?_; rintro e w7 ⟨rfl, rfl⟩) | (go_at_call 55; refine (H2.out _).mono ?_; rintro e w7 ⟨rfl, rfl⟩) | (go_at_call 89; refine (H4.out _).mono ?_; rintro e w7 ⟨rfl, rfl⟩))
              go_ret
              exact ⟨by rw [HR.out]; cases B <;> rfl, hb⟩
            · have HR : Hid (edcB L ⟨n, 1, v, d, fr, tt, st, en⟩ = false) := Lib.hid (by unfold edcB; simp only []; rw [gv, g1, decide_eq_true f0, decide_eq_true f1, decide_eq_false f2]; simp)
              clear g0 gv g1
              go_enter Tryz.func98, Tryz.ntmps98
              go_wp2_with fail
              obtain ⟨wB, hwB⟩ : ∃ wB, (w.alloc (.cells #[.int .i64 L, .slice a js.length ca] 24)).alloc (.cells #[.int .i64 n, .int .i64 1, .int .i64 v, .int .i64 d, .int .i64 fr, .int .i64 tt, .int .i64 st, .int .i64 en] 104) = wB := ⟨_, rfl⟩
              have hb : Below w.heap.size w wB := by rw [← hwB]; exact ((Below.refl _ _).alloc (Nat.le_refl _) _).alloc (by simp) _
              have p0 : wB.cell? ⟨w.heap.size, 0, none⟩ = some (.int .i64 L) := by rw [← hwB]; simp [go_sem]
              have q1 : wB.cell? ⟨w.heap.size + 1, 1, none⟩ = some (.int .i64 1) := by rw [← hwB]; simp [go_sem]
              have q2 : wB.cell? ⟨w.heap.size + 1, 2, none⟩ = some (.int .i64 v) := by rw [← hwB]; simp [go_sem]
              have q3 : wB.cell? ⟨w.heap.size + 1, 3, none⟩ = some (.int .i64 d) := by rw [← hwB]; simp [go_sem]
              have q4 : wB.cell? ⟨w.heap.size + 1, 4, none⟩ = some (.int .i64 fr) := by rw [← hwB]; simp [go_sem]
              have q5 : wB.cell? ⟨w.heap.size + 1, 5, none⟩ = some (.int .i64 tt) := by rw [← hwB]; simp [go_sem]
              have q6 : wB.cell? ⟨w.heap.size + 1, 6, none⟩ = some (.int .i64 st) := by rw [← hwB]; simp [go_sem]
              have q7 : wB.cell? ⟨w.heap.size + 1, 7, none⟩ = some (.int .i64 en) := by rw [← hwB]; simp [go_sem]
              rw [hwB]
              clear hwB
              go_wp2_with (first | (go_at_call 59; refine (H1.out _).mono ?_; rintro e w7 ⟨rfl, rfl⟩) | (go_at_call 55; refine (H2.out _).mono ?_; rintro e w7 ⟨rfl, rfl⟩) | (go_at_call 89; refine (H4.out _).mono ?_; rintro e w7 ⟨rfl, rfl⟩))
              go_ret
              exact ⟨by rw [HR.out]; rfl, hb⟩
          · have HR : Hid (edcB L ⟨n, 1, v, d, fr, tt, st, en⟩ = false) := Lib.hid (by unfold edcB; simp only []; rw [gv, g1, decide_eq_true f0, decide_eq_false f1]; simp)
            clear g0 gv g1
            go_enter Tryz.func98, Tryz.ntmps98
            go_wp2_with fail
            obtain ⟨wB, hwB⟩ : ∃ wB, (w.alloc (.cells #[.int .i64 L, .slice a js.length ca] 24)).alloc (.cells #[.int .i64 n, .int .i64 1, .int .i64 v, .int .i64 d, .int .i64 fr, .int .i64 tt, .int .i64 st, .int .i64 en] 104) = wB := ⟨_, rfl⟩
            have hb : Below w.heap.size w wB := by rw [← hwB]; exact ((Below.refl _ _).alloc (Nat.le_refl _) _).alloc (by simp) _
            have p0 : wB.cell? ⟨w.heap.size, 0, none⟩ = some (.int .i64 L) := by rw [← hwB]; simp [go_sem]
            have q1 : wB.cell? ⟨w.heap.size + 1, 1, none⟩ = some (.int .i64 1) := by rw [← hwB]; simp [go_sem]
            have q2 : wB.cell? ⟨w.heap.size + 1, 2, none⟩ = some (.int .i64 v) := by rw [← hwB]; simp [go_sem]
            have q3 : wB.cell? ⟨w.heap.size + 1, 3, none⟩ = some (.int .i64 d) := by rw [← hwB]; simp [go_sem]
            have q4 : wB.cell? ⟨w.heap.size + 1, 4, none⟩ = some (.int .i64 fr) := by rw [← hwB]; simp [go_sem]
            have q5 : wB.cell? ⟨w.heap.size + 1, 5, none⟩ = some (.int .i64 tt) := by rw [← hwB]; simp [go_sem]
            have q6 : wB.cell? ⟨w.heap.size + 1, 6, none⟩ = some (.int .i64 st) := by rw [← hwB]; simp [go_sem]
            have q7 : wB.cell? ⟨w.heap.size + 1, 7, none⟩ = some (.int .i64 en) := by rw [← hwB]; simp [go_sem]
            rw [hwB]
            clear hwB
            go_wp2_with (first | (go_at_call 59; refine (H1.out _).mono ?_; rintro e w7 ⟨rfl, rfl⟩) | (go_at_call 55; refine (H2.out _).mono ?_; rintro e w7 ⟨rfl, rfl⟩) | (go_at_call 89; refine (H4.out _).mono ?_; rintro e w7 ⟨rfl, rfl⟩))
            go_ret
            exact ⟨by rw [HR.out]; rfl, hb⟩
        · have HR : Hid (edcB L ⟨n, 1, v, d, fr, tt, st, en⟩ = false) := Lib.hid (by unfold edcB; simp only []; rw [gv, g1, decide_eq_false f0]; simp)
          clear g0 gv g1
          go_enter Tryz.func98, Tryz.ntmps98
          go_wp2_with fail
          obtain ⟨wB, hwB⟩ : ∃ wB, (w.alloc (.cells #[.int .i64 L, .slice a js.length ca] 24)).alloc (.cells #[.int .i64 n, .int .i64 1, .int .i64 v, .int .i64 d, .int .i64 fr, .int .i64 tt, .int .i64 st, .int .i64 en] 104) = wB := ⟨_, rfl⟩
          have hb : Below w.heap.size w wB := by rw [← hwB]; exact ((Below.refl _ _).alloc (Nat.le_refl _) _).alloc (by simp) _
          have p0 : wB.cell? ⟨w.heap.size, 0, none⟩ = some (.int .i64 L) := by rw [← hwB]; simp [go_sem]
          have q1 : wB.cell? ⟨w.heap.size + 1, 1, none⟩ = some (.int .i64 1) := by rw [← hwB]; simp [go_sem]
          have q2 : wB.cell? ⟨w.heap.size + 1, 2, none⟩ = some (.int .i64 v) := by rw [← hwB]; simp [go_sem]
          have q3 : wB.cell? ⟨w.heap.size + 1, 3, none⟩ = some (.int .i64 d) := by rw [← hwB]; simp [go_sem]
          have q4 : wB.cell? ⟨w.heap.size + 1, 4, none⟩ = some (.int .i64 fr) := by rw [← hwB]; simp [go_sem]
          have q5 : wB.cell? ⟨w.heap.size + 1, 5, none⟩ = some (.int .i64 tt) := by rw [← hwB]; simp [go_sem]
          have q6 : wB.cell? ⟨w.heap.size + 1, 6, none⟩ = some (.int .i64 st) := by rw [← hwB]; simp [go_sem]
          have q7 : wB.cell? ⟨w.heap.size + 1, 7, none⟩ = some (.int .i64 en) := by rw [← hwB]; simp [go_sem]
          rw [hwB]
          clear hwB
          go_wp2_with (first | (go_at_call 59; refine (H1.out _).mono ?_; rintro e w7 ⟨rfl, rfl⟩) | (go_at_call 55; refine (H2.out _).mono ?_; rintro e w7 ⟨rfl, rfl⟩) | (go_at_call 89; refine (H4.out _).mono ?_; rintro e w7 ⟨rfl, rfl⟩))
          go_ret
          exact ⟨by rw [HR.out]; rfl, hb⟩

    | false =>
      rw [g0] at H1
      have gv : edV 1 v = false := by unfold edV; rw [g0]; rfl
      have HR : Hid (edcB L ⟨n, 1, v, d, fr, tt, st, en⟩ = false) := Lib.hid (by unfold edcB; simp only []; rw [gv]; simp)
      clear g0 gv
      go_enter Tryz.func98, Tryz.ntmps98
      go_wp2_with fail
      obtain ⟨wB, hwB⟩ : ∃ wB, (w.alloc (.cells #[.int .i64 L, .slice a js.length ca] 24)).alloc (.cells #[.int .i64 n, .int .i64 1, .int .i64 v, .int .i64 d, .int .i64 fr, .int .i64 tt, .int .i64 st, .int .i64 en] 104) = wB := ⟨_, rfl⟩
      have hb : Below w.heap.size w wB := by rw [← hwB]; exact ((Below.refl _ _).alloc (Nat.le_refl _) _).alloc (by simp) _
      have p0 : wB.cell? ⟨w.heap.size, 0, none⟩ = some (.int .i64 L) := by rw [← hwB]; simp [go_sem]
      have q1 : wB.cell? ⟨w.heap.size + 1, 1, none⟩ = some (.int .i64 1) := by rw [← hwB]; simp [go_sem]
      have q2 : wB.cell? ⟨w.heap.size + 1, 2, none⟩ = some (.int .i64 v) := by rw [← hwB]; simp [go_sem]
      have q3 : wB.cell? ⟨w.heap.size + 1, 3, none⟩ = some (.int .i64 d) := by rw [← hwB]; simp [go_sem]
      have q4 : wB.cell? ⟨w.heap.size + 1, 4, none⟩ = some (.int .i64 fr) := by rw [← hwB]; simp [go_sem]
      have q5 : wB.cell? ⟨w.heap.size + 1, 5, none⟩ = some (.int .i64 tt) := by rw [← hwB]; simp [go_sem]
      have q6 : wB.cell? ⟨w.heap.size + 1, 6, none⟩ = some (.int .i64 st) := by rw [← hwB]; simp [go_sem]
      have q7 : wB.cell? ⟨w.heap.size + 1, 7, none⟩ = some (.int .i64 en) := by rw [← hwB]; simp [go_sem]
      rw [hwB]
      clear hwB
      go_wp2_with (first | (go_at_call 59; refine (H1.out _).mono ?_; rintro e w7 ⟨rfl, rfl⟩) | (go_at_call 55; refine (H2.out _).mono ?_; rintro e w7 ⟨rfl, rfl⟩) | (go_at_call 89; refine (H4.out _).mono ?_; rintro e w7 ⟨rfl, rfl⟩))
      go_ret
      exact ⟨by rw [HR.out]; rfl, hb⟩
  · by_cases h2 : tp = 2
    · subst h2
      by_cases h3 : v = 1
      · subst h3
        have gv : edV 2 1 = true := by decide
        cases g1 : dirB d with
        | false =>
          rw [g1] at H2
          have HR : Hid (edcB L ⟨n, 2, 1, d, fr, tt, st, en⟩ = false) := Lib.hid (by unfold edcB; simp only []; rw [gv, g1]; simp)
          clear gv g1
          go_enter Tryz.func98, Tryz.ntmps98
          go_wp2_with fail
          obtain ⟨wB, hwB⟩ : ∃ wB, (w.alloc (.cells #[.int .i64 L, .slice a js.length ca] 24)).alloc (.cells #[.int .i64 n, .int .i64 2, .int .i64 1, .int .i64 d, .int .i64 fr, .int .i64 tt, .int .i64 st, .int .i64 en] 104) = wB := ⟨_, rfl⟩
          have hb : Below w.heap.size w wB := by rw [← hwB]; exact ((Below.refl _ _).alloc (Nat.le_refl _) _).alloc (by simp) _
          have p0 : wB.cell? ⟨w.heap.size, 0, none⟩ = some (.int .i64 L) := by rw [← hwB]; simp [go_sem]
          have q1 : wB.cell? ⟨w.heap.size + 1, 1, none⟩ = some (.int .i64 2) := by rw [← hwB]; simp [go_sem]
          have q2 : wB.cell? ⟨w.heap.size + 1, 2, none⟩ = some (.int .i64 1) := by rw [← hwB]; simp [go_sem]
          have q3 : wB.cell? ⟨w.heap.size + 1, 3, none⟩ = some (.int .i64 d) := by rw [← hwB]; simp [go_sem]
          have q4 : wB.cell? ⟨w.heap.size + 1, 4, none⟩ = some (.int .i64 fr) := by rw [← hwB]; simp [go_sem]
          have q5 : wB.cell? ⟨w.heap.size + 1, 5, none⟩ = some (.int .i64 tt) := by rw [← hwB]; simp [go_sem]
          have q6 : wB.cell? ⟨w.heap.size + 1, 6, none⟩ = some (.int .i64 st) := by rw [← hwB]; simp [go_sem]
          have q7 : wB.cell? ⟨w.heap.size + 1, 7, none⟩ = some (.int .i64 en) := by rw [← hwB]; simp [go_sem]
          rw [hwB]
          clear hwB
          go_wp2_with (first | (go_at_call 59; refine (H1.out _).mono ?_; rintro e w7 ⟨rfl, rfl⟩) | (go_at_call 55; refine (H2.out _).mono ?_; rintro e w7 ⟨rfl, rfl⟩) | (go_at_call 89; refine (H4.out _).mono ?_; rintro e w7 ⟨rfl, rfl⟩))
          go_ret
          exact ⟨by rw [HR.out]; rfl, hb⟩
        | true =>
          rw [g1] at H2
          by_cases f0 : 0 ≤ fr
          · by_cases f1 : fr < tt
            · by_cases f2 : tt ≤ L
              · have HT : Hid (∀ z, timeB st en = z → edcB L ⟨n, 2, 1, d, fr, tt, st, en⟩ = z) := Lib.hid (fun z hz => by unfold edcB; simp only []; rw [gv, g1, decide_eq_true f0, decide_eq_true f1, decide_eq_true f2, hz]; simp)
                have HR := Lib.hid (HT.out _ rfl)
                clear HT gv g1
                generalize timeB st en = B at *
                go_enter Tryz.func98, Tryz.ntmps98
                go_wp2_with fail
                obtain ⟨wB, hwB⟩ : ∃ wB, (w.alloc (.cells #[.int .i64 L, .slice a js.length ca] 24)).alloc (.cells #[.int .i64 n, .int .i64 2, .int .i64 1, .int .i64 d, .int .i64 fr, .int .i64 tt, .int .i64 st, .int .i64 en] 104) = wB := ⟨_, rfl⟩
                have hb : Below w.heap.size w wB := by rw [← hwB]; exact ((Below.refl _ _).alloc (Nat.le_refl _) _).alloc (by simp) _
                have p0 : wB.cell? ⟨w.heap.size, 0, none⟩ = some (.int .i64 L) := by rw [← hwB]; simp [go_sem]
                have q1 : wB.cell? ⟨w.heap.size + 1, 1, none⟩ = some (.int .i64 2) := by rw [← hwB]; simp [go_sem]
                have q2 : wB.cell? ⟨w.heap.size + 1, 2, none⟩ = some (.int .i64 1) := by rw [← hwB]; simp [go_sem]
                have q3 : wB.cell? ⟨w.heap.size + 1, 3, none⟩ = some (.int .i64 d) := by rw [← hwB]; simp [go_sem]
                have q4 : wB.cell? ⟨w.heap.size + 1, 4, none⟩ = some (.int .i64 fr) := by rw [← hwB]; simp [go_sem]
                have q5 : wB.cell? ⟨w.heap.size + 1, 5, none⟩ = some (.int .i64 tt) := by rw [← hwB]; simp [go_sem]
                have q6 : wB.cell? ⟨w.heap.size + 1, 6, none⟩ = some (.int .i64 st) := by rw [← hwB]; simp [go_sem]
                have q7 : wB.cell? ⟨w.heap.size + 1, 7, none⟩ = some (.int .i64 en) := by rw [← hwB]; simp [go_sem]
                rw [hwB]
                clear hwB
                go_wp2_with (first | (go_at_call 59; refine (H1.out _).mono ?_; rintro e w7 ⟨rfl, rfl⟩) | (go_at_call 55; refine (H2.out _).mono ?_; rintro e w7 ⟨rfl, rfl⟩) | (go_at_call 89; refine (H4.out _).mono ?_; rintro e w7 ⟨rfl, rfl⟩))
                go_ret
                exact ⟨by rw [HR.out]; cases B <;> rfl, hb⟩
              · have HR : Hid (edcB L ⟨n, 2, 1, d, fr, tt, st, en⟩ = false) := Lib.hid (by unfold edcB; simp only []; rw [gv, g1, decide_eq_true f0, decide_eq_true f1, decide_eq_false f2]; simp)
                clear gv g1
                go_enter Tryz.func98, Tryz.ntmps98
                go_wp2_with fail
                obtain ⟨wB, hwB⟩ : ∃ wB, (w.alloc (.cells #[.int .i64 L, .slice a js.length ca] 24)).alloc (.cells #[.int .i64 n, .int .i64 2, .int .i64 1, .int .i64 d, .int .i64 fr, .int .i64 tt, .int .i64 st, .int .i64 en] 104) = wB := ⟨_, rfl⟩
                have hb : Below w.heap.size w wB := by rw [← hwB]; exact ((Below.refl _ _).alloc (Nat.le_refl _) _).alloc (by simp) _
                have p0 : wB.cell? ⟨w.heap.size, 0, none⟩ = some (.int .i64 L) := by rw [← hwB]; simp [go_sem]
                have q1 : wB.cell? ⟨w.heap.size + 1, 1, none⟩ = some (.int .i64 2) := by rw [← hwB]; simp [go_sem]
                have q2 : wB.cell? ⟨w.heap.size + 1, 2, none⟩ = some (.int .i64 1) := by rw [← hwB]; simp [go_sem]
                have q3 : wB.cell? ⟨w.heap.size + 1, 3, none⟩ = some (.int .i64 d) := by rw [← hwB]; simp [go_sem]
                have q4 : wB.cell? ⟨w.heap.size + 1, 4, none⟩ = some (.int .i64 fr) := by rw [← hwB]; simp [go_sem]
                have q5 : wB.cell? ⟨w.heap.size + 1, 5, none⟩ = some (.int .i64 tt) := by rw [← hwB]; simp [go_sem]
                have q6 : wB.cell? ⟨w.heap.size + 1, 6, none⟩ = some (.int .i64 st) := by rw [← hwB]; simp [go_sem]
                have q7 : wB.cell? ⟨w.heap.size + 1, 7, none⟩ = some (.int .i64 en) := by rw [← hwB]; simp [go_sem]
                rw [hwB]
                clear hwB
                go_wp2_with (first | (go_at_call 59; refine (H1.out _).mono ?_; rintro e w7 ⟨rfl, rfl⟩) | (go_at_call 55; refine (H2.out _).mono ?_; rintro e w7 ⟨rfl, rfl⟩) | (go_at_call 89; refine (H4.out _).mono ?_; rintro e w7 ⟨rfl, rfl⟩))
                go_ret
                exact ⟨by rw [HR.out]; rfl, hb⟩
            · have HR : Hid (edcB L ⟨n, 2, 1, d, fr, tt, st, en⟩ = false) := Lib.hid (by unfold edcB; simp only []; rw [gv, g1, decide_eq_true f0, decide_eq_false f1]; simp)
              clear gv g1
              go_enter Tryz.func98, Tryz.ntmps98
              go_wp2_with fail
              obtain ⟨wB, hwB⟩ : ∃ wB, (w.alloc (.cells #[.int .i64 L, .slice a js.length ca] 24)).alloc (.cells #[.int .i64 n, .int .i64 2, .int .i64 1, .int .i64 d, .int .i64 fr, .int .i64 tt, .int .i64 st, .int .i64 en] 104) = wB := ⟨_, rfl⟩
              have hb : Below w.heap.size w wB := by rw [← hwB]; exact ((Below.refl _ _).alloc (Nat.le_refl _) _).alloc (by simp) _
              have p0 : wB.cell? ⟨w.heap.size, 0, none⟩ = some (.int .i64 L) := by rw [← hwB]; simp [go_sem]
              have q1 : wB.cell? ⟨w.heap.size + 1, 1, none⟩ = some (.int .i64 2) := by rw [← hwB]; simp [go_sem]
              have q2 : wB.cell? ⟨w.heap.size + 1, 2, none⟩ = some (.int .i64 1) := by rw [← hwB]; simp [go_sem]
              have q3 : wB.cell? ⟨w.heap.size + 1, 3, none⟩ = some (.int .i64 d) := by rw [← hwB]; simp [go_sem]
              have q4 : wB.cell? ⟨w.heap.size + 1, 4, none⟩ = some (.int .i64 fr) := by rw [← hwB]; simp [go_sem]
              have q5 : wB.cell? ⟨w.heap.size + 1, 5, none⟩ = some (.int .i64 tt) := by rw [← hwB]; simp [go_sem]
              have q6 : wB.cell? ⟨w.heap.size + 1, 6, none⟩ = some (.int .i64 st) := by rw [← hwB]; simp [go_sem]
              have q7 : wB.cell? ⟨w.heap.size + 1, 7, none⟩ = some (.int .i64 en) := by rw [← hwB]; simp [go_sem]
              rw [hwB]
              clear hwB
              go_wp2_with (first | (go_at_call 59; refine (H1.out _).mono ?_; rintro e w7 ⟨rfl, rfl⟩) | (go_at_call 55; refine (H2.out _).mono ?_; rintro e w7 ⟨rfl, rfl⟩) | (go_at_call 89; refine (H4.out _).mono ?_; rintro e w7 ⟨rfl, rfl⟩))
              go_ret
              exact ⟨by rw [HR.out]; rfl, hb⟩
          · have HR : Hid (edcB L ⟨n, 2, 1, d, fr, tt, st, en⟩ = false) := Lib.hid (by unfold edcB; simp only []; rw [gv, g1, decide_eq_false f0]; simp)
            clear gv g1
            go_enter Tryz.func98, Tryz.ntmps98
            go_wp2_with fail
            obtain ⟨wB, hwB⟩ : ∃ wB, (w.alloc (.cells #[.int .i64 L, .slice a js.length ca] 24)).alloc (.cells #[.int .i64 n, .int .i64 2, .int .i64 1, .int .i64 d, .int .i64 fr, .int .i64 tt, .int .i64 st, .int .i64 en] 104) = wB := ⟨_, rfl⟩
            have hb : Below w.heap.size w wB := by rw [← hwB]; exact ((Below.refl _ _).alloc (Nat.le_refl _) _).alloc (by simp) _
            have p0 : wB.cell? ⟨w.heap.size, 0, none⟩ = some (.int .i64 L) := by rw [← hwB]; simp [go_sem]
            have q1 : wB.cell? ⟨w.heap.size + 1, 1, none⟩ = some (.int .i64 2) := by rw [← hwB]; simp [go_sem]
            have q2 : wB.cell? ⟨w.heap.size + 1, 2, none⟩ = some (.int .i64 1) := by rw [← hwB]; simp [go_sem]
            have q3 : wB.cell? ⟨w.heap.size + 1, 3, none⟩ = some (.int .i64 d) := by rw [← hwB]; simp [go_sem]
            have q4 : wB.cell? ⟨w.heap.size + 1, 4, none⟩ = some (.int .i64 fr) := by rw [← hwB]; simp [go_sem]
            have q5 : wB.cell? ⟨w.heap.size + 1, 5, none⟩ = some (.int .i64 tt) := by rw [← hwB]; simp [go_sem]
            have q6 : wB.cell? ⟨w.heap.size + 1, 6, none⟩ = some (.int .i64 st) := by rw [← hwB]; simp [go_sem]
            have q7 : wB.cell? ⟨w.heap.size + 1, 7, none⟩ = some (.int .i64 en) := by rw [← hwB]; simp [go_sem]
            rw [hwB]
            clear hwB
            go_wp2_with (first | (go_at_call 59; refine (H1.out _).mono ?_; rintro e w7 ⟨rfl, rfl⟩) | (go_at_call 55; refine (H2.out _).mono ?_; rintro e w7 ⟨rfl, rfl⟩) | (go_at_call 89; refine (H4.out _).mono ?_; rintro e w7 ⟨rfl, rfl⟩))
            go_ret
            exact ⟨by rw [HR.out]; rfl, hb⟩

      · have gv : edV 2 v = false := by unfold edV; simp [h3]
        have HR : Hid (edcB L ⟨n, 2, v, d, fr, tt, st, en⟩ = false) := Lib.hid (by unfold edcB; simp only []; rw [gv]; simp)
        clear gv
        go_enter Tryz.func98, Tryz.ntmps98
        go_wp2_with fail
        obtain ⟨wB, hwB⟩ : ∃ wB, (w.alloc (.cells #[.int .i64 L, .slice a js.length ca] 24)).alloc (.cells #[.int .i64 n, .int .i64 2, .int .i64 v, .int .i64 d, .int .i64 fr, .int .i64 tt, .int .i64 st, .int .i64 en] 104) = wB := ⟨_, rfl⟩
        have hb : Below w.heap.size w wB := by rw [← hwB]; exact ((Below.refl _ _).alloc (Nat.le_refl _) _).alloc (by simp) _
        have p0 : wB.cell? ⟨w.heap.size, 0, none⟩ = some (.int .i64 L) := by rw [← hwB]; simp [go_sem]
        have q1 : wB.cell? ⟨w.heap.size + 1, 1, none⟩ = some (.int .i64 2) := by rw [← hwB]; simp [go_sem]
        have q2 : wB.cell? ⟨w.heap.size + 1, 2, none⟩ = some (.int .i64 v) := by rw [← hwB]; simp [go_sem]
        have q3 : wB.cell? ⟨w.heap.size + 1, 3, none⟩ = some (.int .i64 d) := by rw [← hwB]; simp [go_sem]
        have q4 : wB.cell? ⟨w.heap.size + 1, 4, none⟩ = some (.int .i64 fr) := by rw [← hwB]; simp [go_sem]
        have q5 : wB.cell? ⟨w.heap.size + 1, 5, none⟩ = some (.int .i64 tt) := by rw [← hwB]; simp [go_sem]
        have q6 : wB.cell? ⟨w.heap.size + 1, 6, none⟩ = some (.int .i64 st) := by rw [← hwB]; simp [go_sem]
        have q7 : wB.cell? ⟨w.heap.size + 1, 7, none⟩ = some (.int .i64 en) := by rw [← hwB]; simp [go_sem]
        rw [hwB]
        clear hwB
        go_wp2_with (first | (go_at_call 59; refine (H1.out _).mono ?_; rintro e w7 ⟨rfl, rfl⟩) | (go_at_call 55; refine (H2.out _).mono ?_; rintro e w7 ⟨rfl, rfl⟩) | (go_at_call 89; refine (H4.out _).mono ?_; rintro e w7 ⟨rfl, rfl⟩))
        go_ret
        exact ⟨by rw [HR.out]; rfl, hb⟩
    · have gv : edV tp v = false := by unfold edV; simp [h1, h2]
      have HR : Hid (edcB L ⟨n, tp, v, d, fr, tt, st, en⟩ = false) := Lib.hid (by unfold edcB; simp only []; rw [gv]; simp)
      clear gv
      go_enter Tryz.func98, Tryz.ntmps98
      go_wp2_with fail
      obtain ⟨wB, hwB⟩ : ∃ wB, (w.alloc (.cells #[.int .i64 L, .slice a js.length ca] 24)).alloc (.cells #[.int .i64 n, .int .i64 tp, .int .i64 v, .int .i64 d, .int .i64 fr, .int .i64 tt, .int .i64 st, .int .i64 en] 104) = wB := ⟨_, rfl⟩
      have hb : Below w.heap.size w wB := by rw [← hwB]; exact ((Below.refl _ _).alloc (Nat.le_refl _) _).alloc (by simp) _
      have p0 : wB.cell? ⟨w.heap.size, 0, none⟩ = some (.int .i64 L) := by rw [← hwB]; simp [go_sem]
      have q1 : wB.cell? ⟨w.heap.size + 1, 1, none⟩ = some (.int .i64 tp) := by rw [← hwB]; simp [go_sem]
      have q2 : wB.cell? ⟨w.heap.size + 1, 2, none⟩ = some (.int .i64 v) := by rw [← hwB]; simp [go_sem]
      have q3 : wB.cell? ⟨w.heap.size + 1, 3, none⟩ = some (.int .i64 d) := by rw [← hwB]; simp [go_sem]
      have q4 : wB.cell? ⟨w.heap.size + 1, 4, none⟩ = some (.int .i64 fr) := by rw [← hwB]; simp [go_sem]
      have q5 : wB.cell? ⟨w.heap.size + 1, 5, none⟩ = some (.int .i64 tt) := by rw [← hwB]; simp [go_sem]
      have q6 : wB.cell? ⟨w.heap.size + 1, 6, none⟩ = some (.int .i64 st) := by rw [← hwB]; simp [go_sem]
      have q7 : wB.cell? ⟨w.heap.size + 1, 7, none⟩ = some (.int .i64 en) := by rw [← hwB]; simp [go_sem]
      rw [hwB]
      clear hwB
      go_wp2_with (first | (go_at_call 59; refine (H1.out _).mono ?_; rintro e w7 ⟨rfl, rfl⟩) | (go_at_call 55; refine (H2.out _).mono ?_; rintro e w7 ⟨rfl, rfl⟩) | (go_at_call 89; refine (H4.out _).mono ?_; rintro e w7 ⟨rfl, rfl⟩))
      go_ret
      exact ⟨by rw [HR.out]; rfl, hb⟩
end Go.Proofs.YtneafbhiencjlaaGreatDoor

namespace Go.Proofs.YtneafbhiencjlaaGreatDoor
set_option linter.unusedVariables false
set_option linter.unusedSimpArgs false
open Go.RowKit

set_option maxRecDepth 100000 in
set_option maxHeartbeats 1000000 in
theorem idxEd_any (aa : Option Addr) (l : List Edc) (ca : Nat) (lb : Array Value) (p : Nat → Bool) (w : World) (hA : EdS w aa l)
    (hp : ∀ j W, j < l.length → Below w.heap.size w W → Calls Tryz.prog 97 (#[.agg #[.int .i64 (ge l j).n, .int .i64 (ge l j).tp, .int .i64 (ge l j).v, .int .i64 (ge l j).d, .int .i64 (ge l j).fr, .int .i64 (ge l j).tt, .int .i64 (ge l j).st, .int .i64 (ge l j).en]] ++ lb) W fun e w' => e = .returned (.bool (p j)) ∧ Below W.heap.size W w') :
    Calls Tryz.prog 129 #[.slice aa l.length ca, .func (.func 97) #[] lb] w fun e w' => e = .returned (.int .i64 (idxK p l.length)) ∧ Below w.heap.size w w' := by
  obtain ⟨hlen, blk, off, hadr, hc⟩ := hA
  have HP := Lib.hid hp
  have HC := Lib.hid hc
  have HH : Hid (∀ k, k < l.length → p k = true → (∀ j, j < k → p j = false) → idxK p l.length = k) := Lib.hid fun k hk h hb => idxK_hit h hb _ hk
  have HM : Hid ((∀ j, j < l.length → p j = false) → idxK p l.length = -1) := Lib.hid fun h => idxK_miss _ h
  have HL : Hid (0 < l.length → aa = some ⟨blk, off, none⟩) := Lib.hid fun h => hadr (pos_ne (n := 0) h)
  generalize idxK p l.length = R at *
  clear hp hc hadr
  go_enter Tryz.func129, Tryz.ntmps129
  go_wp2_with fail
  go_loopw [8] (fun i wr => ∃ k : Nat, k ≤ l.length ∧ i = .int .i64 k ∧ Below w.heap.size w wr ∧ Hid (∀ j, j < k → p j = false)) (fun i _ => l.length - (intOf i).toNat)
  case atStart => exact ⟨0, Nat.zero_le _, rfl, Below.refl _ _, Lib.hid fun j hj => absurd hj (Nat.not_lt_zero _)⟩
  case round =>
    obtain ⟨k, hk, rfl, hb, HA⟩ := hrel
    by_cases hlt : k < l.length
    · obtain rfl := HL.out (by omega)
      obtain ⟨c0, c1, c2, c3, c4, c5, c6, c7⟩ := HC.out k hlt
      have c0 := cell_below c0 hb
      have c1 := cell_below c1 hb
      have c2 := cell_below c2 hb
      have c3 := cell_below c3 hb
      have c4 := cell_below c4 hb
      have c5 := cell_below c5 hb
      have c6 := cell_below c6 hb
      have c7 := cell_below c7 hb
      have HK := Lib.hid (fun W hW => HP.out k W hlt hW)
      have HHk := Lib.hid (HH.out k hlt)
      have HN : Hid (p k = false → ∀ j, j < k + 1 → p j = false) := Lib.hid fun h j hj => by
        by_cases e : j = k
        · subst e; exact h
        · exact HA.out j (by omega)
      clear HP HC HM HL HH
      generalize ge l k = s at *
      cases hpk : p k with
      | true =>
        have HR := Lib.hid (HHk.out hpk HA.out)
        rw [hpk] at HK
        clear hpk HHk HN
        go_wp2_with fail
        refine (HK.out _ hb).mono ?_
        rintro e w1 ⟨rfl, hb1⟩
        go_wp2_with fail
        go_ret
        rw [HR.out]
        exact ⟨rfl, hb.trans (hb1.mono hb.size)⟩
      | false =>
        have HR := Lib.hid (HN.out hpk)
        rw [hpk] at HK
        clear hpk HHk HN
        go_wp2_with fail
        refine (HK.out _ hb).mono ?_
        rintro e w1 ⟨rfl, hb1⟩
        go_wp2_with fail
        go_roundw
        case rel => exact ⟨k + 1, by omega, by go_num, hb.trans (hb1.mono hb.size), HR⟩
        case measure => simp [intOf]; omega
    · obtain rfl : k = l.length := by omega
      have HR := Lib.hid (HM.out HA.out)
      go_wp2_with fail
      go_ret
      rw [HR.out]
      exact ⟨rfl, hb⟩
set_option maxRecDepth 100000 in
theorem containsEd_any (aa : Option Addr) (l : List Edc) (ca : Nat) (lb : Array Value) (p : Nat → Bool) (w : World) (hA : EdS w aa l)
    (hp : ∀ j W, j < l.length → Below w.heap.size w W → Calls Tryz.prog 97 (#[.agg #[.int .i64 (ge l j).n, .int .i64 (ge l j).tp, .int .i64 (ge l j).v, .int .i64 (ge l j).d, .int .i64 (ge l j).fr, .int .i64 (ge l j).tt, .int .i64 (ge l j).st, .int .i64 (ge l j).en]] ++ lb) W fun e w' => e = .returned (.bool (p j)) ∧ Below W.heap.size W w') :
    Calls Tryz.prog 96 #[.slice aa l.length ca, .func (.func 97) #[] lb] w fun e w' => e = .returned (.bool (anyK p l.length)) ∧ Below w.heap.size w w' := by
  have H := Lib.hid (idxEd_any aa l ca lb p w hA hp)
  have hq := Lib.hid (idxK_any p l.length)
  clear hp hA
  generalize idxK p l.length = R at *
  generalize anyK p l.length = B at *
  have hq := hq.out
  subst hq
  go_enter Tryz.func96, Tryz.ntmps96
  go_wp2_with fail
  refine H.out.mono ?_
  rintro e w1 ⟨rfl, hb1⟩
  go_wp2_with fail
  all_goals
    go_ret
    exact ⟨by simp_all, hb1⟩
set_option maxRecDepth 100000 in
theorem ed1_r (L : Int) (a : Option Addr) (js : List Int) (ca B : Nat) (s : Edc) (w : World) (hB : B < w.heap.size) (c0 : w.cell? ⟨B, 0, none⟩ = some (.int .i64 L)) (c1 : w.cell? ⟨B, 1, none⟩ = some (.slice a js.length ca)) :
    Calls Tryz.prog 97 (#[.agg #[.int .i64 s.n, .int .i64 s.tp, .int .i64 s.v, .int .i64 s.d, .int .i64 s.fr, .int .i64 s.tt, .int .i64 s.st, .int .i64 s.en]] ++ #[.pointer (some ⟨B, 0, none⟩)]) w fun e w' => e = .returned (.bool (!(edcB L s))) ∧ Below w.heap.size w w' := by
  have H := Lib.hid (fun W (hW : Below w.heap.size w W) => edictValid_r L a js ca s W)
  generalize edcB L s = b at *
  have hq : Hid (∀ c t o, o < 2 → (w.alloc (.cells c t)).cell? ⟨B, o, none⟩ = w.cell? ⟨B, o, none⟩) := Lib.hid fun c t o _ => ((Below.refl w.heap.size w).alloc (Nat.le_refl _) _).cell (p := ⟨B, o, none⟩) hB
  have q0 : ∀ c t, (w.alloc (.cells c t)).cell? ⟨B, 0, none⟩ = some (.int .i64 L) := fun c t => (hq.out c t 0 (by omega)).trans c0
  have q1 : ∀ c t, (w.alloc (.cells c t)).cell? ⟨B, 1, none⟩ = some (.slice a js.length ca) := fun c t => (hq.out c t 1 (by omega)).trans c1
  clear hq
  go_enter Tryz.func97, Tryz.ntmps97
  go_wp2_with (go_at_call 98; refine (H.out _ ((Below.refl _ _).alloc (Nat.le_refl _) _)).mono ?_; rintro e w' ⟨rfl, hb⟩)
  go_ret
  exact ⟨rfl, below_onR ((Below.refl _ _).alloc (Nat.le_refl _) _) hb⟩
set_option maxRecDepth 100000 in
theorem ed2_r (s : Edc) (w : World) :
    Calls Tryz.prog 100 #[.agg #[.int .i64 s.n, .int .i64 s.tp, .int .i64 s.v, .int .i64 s.d, .int .i64 s.fr, .int .i64 s.tt, .int .i64 s.st, .int .i64 s.en]] w fun e w' => e = .returned (.int .i64 s.n) ∧ Below w.heap.size w w' := by
  go_enter Tryz.func100, Tryz.ntmps100
  go_wp2_with fail
  go_ret
  exact ⟨rfl, (Below.refl _ _).alloc (Nat.le_refl _) _⟩
/-- The numbers of the first k edicts. -/
def nosE (l : List Edc) (k : Nat) : List Int := (l.take k).map (·.n)
theorem nosE_succ (l : List Edc) {k : Nat} (h : k < l.length) : nosE l (k + 1) = nosE l k ++ [(ge l k).n] := by
  unfold nosE ge; rw [List.take_add_one, List.map_append]; simp [h]
theorem nosE_len (l : List Edc) {k : Nat} (h : k ≤ l.length) : (nosE l k).length = k := by unfold nosE; simp; omega
set_option maxRecDepth 100000 in
set_option maxHeartbeats 2000000 in
theorem numberedE_r (aa : Option Addr) (l : List Edc) (ca : Nat) (w : World) (hA : EdS w aa l) (hn : l.length ≤ 100000000) :
    Calls Tryz.prog 99 #[.slice aa l.length ca, .func (.func 100) #[] #[]] w fun e w' => e = .returned (.bool (numB (nosE l l.length))) ∧ Below w.heap.size w w' := by
  obtain ⟨hlen, blk, off, hadr, hc⟩ := hA
  have HC := Lib.hid hc
  have HL : Hid (0 < l.length → aa = some ⟨blk, off, none⟩) := Lib.hid fun h => hadr (pos_ne (n := 0) h)
  have HNS : Hid (∀ k, k < l.length → clI (nosE l (k + 1)) = clI (nosE l k) ++ [.int .i64 (ge l k).n]) := Lib.hid fun k hk => by rw [nosE_succ l hk, clI_app]
  have HNL : Hid (∀ k, k ≤ l.length → (nosE l k).length = k) := Lib.hid fun k hk => nosE_len l hk
  obtain ⟨i0, hi, hz0, hz1, hz2⟩ := info_parts infoInt
  clear hc hadr
  go_enter Tryz.func99, Tryz.ntmps99
  go_wp2_with fail
  go_loopw [5, 13] (fun v i wr => ∃ k : Nat, k ≤ l.length ∧ i = .int .i64 k ∧ (∃ a c, v = .slice a k c) ∧ Hid (wr.ownsRow w.heap.size 3 1 v k (clI (nosE l k))) ∧ Below w.heap.size w wr) (fun _ i _ => l.length - (intOf i).toNat)
  case atStart => exact ⟨0, Nat.zero_le _, rfl, ⟨none, 0, rfl⟩, Lib.hid ⟨rfl, .inl ⟨rfl, rfl⟩⟩, Below.refl _ _⟩
  case round =>
    obtain ⟨k, hk, rfl, ⟨av, cv, rfl⟩, HRow, hbr⟩ := hrel
    by_cases hlt : k < l.length
    · obtain rfl := HL.out (by omega)
      obtain ⟨c0, c1, c2, c3, c4, c5, c6, c7⟩ := HC.out k hlt
      have c0 := cell_below c0 hbr
      have c1 := cell_below c1 hbr
      have c2 := cell_below c2 hbr
      have c3 := cell_below c3 hbr
      have c4 := cell_below c4 hbr
      have c5 := cell_below c5 hbr
      have c6 := cell_below c6 hbr
      have c7 := cell_below c7 hbr
      have HNk := Lib.hid (HNS.out k hlt)
      clear HC HL HNS HNL
      generalize hsk : ge l k = s at *
      clear hsk
      generalize nosE l k = X0 at *
      have HK := Lib.hid (fun W => ed2_r s W)
      go_wp2_with fail
      refine (HK.out _).mono ?_
      rintro e w1 ⟨rfl, hb1⟩
      have hb0 : Below w.heap.size w (wr.alloc (.cells #[.int .i64 s.n, .int .i64 s.tp, .int .i64 s.v, .int .i64 s.d, .int .i64 s.fr, .int .i64 s.tt, .int .i64 s.st, .int .i64 s.en] 104)) := hbr.alloc hbr.size _
      have hbq := hb0.trans (hb1.mono hb0.size)
      have HRow1 := Lib.hid (owns_belowI (HRow.out.alloc (.cells #[.int .i64 s.n, .int .i64 s.tp, .int .i64 s.v, .int .i64 s.d, .int .i64 s.fr, .int .i64 s.tt, .int .i64 s.st, .int .i64 s.en] 104)) hb1)
      clear hb1 hb0 HRow HK c0 c1 c2 c3 c4 c5 c6 c7 hbr
      have hown := Lib.hid (HRow1.out.alloc (.cells #[.int .i64 s.n] 3))
      have hbs := hbq.size
      go_wp2_with (first | (at_builtin; go_loud (refine wpList_append_lies _ rfl _ _ 22 rfl w.heap.size 3 i0 _ 1 8 Tryz.underlying22 hi hz0 hz1 hz2 rfl (by decide) (.slice av k cv) k _ (by rfl) hown.out ⟨w1.heap.size, 0, none⟩ 1 1 [.int .i64 s.n] (by rfl) (by rfl) ?d1 ?d2 (by decide) ?d3 ?d4 ?d5 _ rfl ?_)))
      case d1 =>
        refine World.news_of_block (cs := #[.int .i64 s.n]) (t := 3) (fr := (0, 0)) ?_
        exact heap_alloc_new _ _
      case d2 => simp [Value.oneCell']
      case d3 => unfold maxLen; omega
      case d4 => omega
      case d5 => first | (simp; omega) | simp | omega
      intro g6 c6 w6 hown6 hgrow6 hat6 hlt6
      have hb6 : Below w.heap.size w w6 := ((hbq.alloc hbs _).grown hgrow6 (by first | (simp; omega) | simp | omega) (fun z hz => owns_blockI hown.out hz))
      have HRow6 : Hid (w6.ownsRow w.heap.size 3 1 (.slice (some ⟨g6, 0, none⟩) (k + 1) c6) (k + 1) (clI (nosE l (k + 1)))) := Lib.hid (by rw [HNk.out]; exact hown6)
      clear hown6 hown HRow1 hbq hgrow6 hat6 hlt6 HNk
      go_wp2_with fail
      go_roundw
      case rel => exact ⟨k + 1, by omega, by go_num, ⟨_, c6, rfl⟩, HRow6, hb6⟩
      case measure => simp [intOf]; omega
    · obtain rfl : k = l.length := by omega
      have hle := HNL.out l.length (Nat.le_refl _)
      have HS := Lib.hid (sort_own w.heap.size cv av (nosE l l.length) wr (by rw [hle]; exact HRow.out) (by rw [hle]; exact hn))
      have HZL : Hid ((srt (nosE l l.length)).length = l.length) := Lib.hid ((srt_len _).trans hle)
      have HN : Hid (numB (nosE l l.length) = ascB (srt (nosE l l.length))) := Lib.hid rfl
      rw [hle] at HS
      generalize srt (nosE l l.length) = Z at *
      clear HRow HC HL HNS HNL hle
      have hbs := hbr.size
      go_wp2_with (go_at_call 92; refine HS.out.mono ?_; rintro e w2 ⟨rfl, hown2, hb2⟩)
      have hbz := hbr.trans (hb2 hbs)
      have HOwn := Lib.hid hown2
      clear hown2 hb2 HS hbr
      have HZ : Hid (∀ k, k < l.length → ∃ g, av = some ⟨g, 0, none⟩ ∧ w2.cell? ⟨g, k, none⟩ = some (.int .i64 (gi Z k))) := Lib.hid fun k hk => by
        have hz := HZL.out
        have h := HOwn.out
        rcases h.2 with ⟨h1, h2⟩ | ⟨g2, c2, cur, h1, _⟩
        · omega
        · obtain ⟨rfl, rfl⟩ : av = some ⟨g2, 0, none⟩ ∧ cv = c2 := by simpa using h1
          refine ⟨g2, rfl, ?_⟩
          rw [World.ownsRow.cellAt h k (by omega)]
          exact clI_get Z (by omega)
      have HE : Hid ((∀ k, k < l.length → nOk Z k = true) → ascB Z = true) := Lib.hid fun h => asc_end fun k hk => h k (by rw [← HZL.out]; exact hk)
      have HB : Hid (∀ k, k < l.length → nOk Z k = false → ascB Z = false) := Lib.hid fun k hk h => asc_bad (by rw [HZL.out]; exact hk) h
      have HNK : Hid (∀ k, nOk Z k = (decide (prvR Z k < gi Z k) && decide (gi Z k ≤ 1000000000))) := Lib.hid fun k => rfl
      have HP1 : Hid (∀ k, prvR Z (k + 1) = gi Z k) := Lib.hid fun k => rfl
      have HP0 : Hid (prvR Z 0 = 0) := Lib.hid rfl
      clear HOwn HZL
      generalize ascB Z = AB at *
      go_wp2_with fail
      go_loopw [8, 28] (fun q i wr => ∃ k : Nat, k ≤ l.length ∧ i = .int .i64 k ∧ q = .int .i64 (prvR Z k) ∧ wr = w2 ∧ Hid (∀ j, j < k → nOk Z j = true)) (fun _ i _ => l.length - (intOf i).toNat)
      case atStart => exact ⟨0, Nat.zero_le _, rfl, by rw [HP0.out], rfl, Lib.hid fun j hj => absurd hj (Nat.not_lt_zero _)⟩
      case round =>
        obtain ⟨k, hk, rfl, rfl, rfl, HA⟩ := hrel
        by_cases hlt : k < l.length
        · obtain ⟨g, rfl, cz⟩ := HZ.out k hlt
          have HNk := Lib.hid (HNK.out k)
          have HBk := Lib.hid (HB.out k hlt)
          have HP := Lib.hid (HP1.out k)
          have HA1 : Hid (nOk Z k = true → ∀ j, j < k + 1 → nOk Z j = true) := Lib.hid fun h j hj => by
            by_cases e : j = k
            · subst e; exact h
            · exact HA.out j (by omega)
          clear HZ HE HB HNK HP1 HP0 HA
          generalize prvR Z (k + 1) = x1 at *
          have HP := HP.out
          subst HP
          generalize prvR Z k = x0 at *
          generalize hxx : gi Z k = x at *
          generalize nOk Z k = ok at *
          by_cases h1 : x0 < x
          · by_cases h2 : x ≤ 1000000000
            · have hok : ok = true := by rw [HNk.out, decide_eq_true h1, decide_eq_true h2]; rfl
              have HA1 := Lib.hid (HA1.out hok)
              clear hok HNk HBk
              subst hxx
              go_wp2_with fail
              go_roundw
              case rel => exact ⟨k + 1, by omega, by go_num, by first | rfl | trivial | simp, by first | rfl | trivial, HA1⟩
              case measure => simp [intOf]; omega
            · have hok : ok = false := by rw [HNk.out, decide_eq_false h2]; simp
              have HR := Lib.hid (HBk.out hok)
              clear hok HNk HBk HA1 hxx
              go_wp2_with fail
              go_ret
              exact ⟨by rw [HN.out, HR.out]; rfl, hbz⟩
          · have hok : ok = false := by rw [HNk.out, decide_eq_false h1]; simp
            have HR := Lib.hid (HBk.out hok)
            clear hok HNk HBk HA1 hxx
            go_wp2_with fail
            go_ret
            exact ⟨by rw [HN.out, HR.out]; rfl, hbz⟩
        · obtain rfl : k = l.length := by omega
          have HR := Lib.hid (HE.out HA.out)
          go_wp2_with fail
          go_ret
          exact ⟨by rw [HN.out, HR.out]; rfl, hbz⟩
/-- Are all edicts right, their numbers aside? -/
def allE (L : Int) (l : List Edc) : Bool := !(anyK (fun j => !(edcB L (ge l j))) l.length)
/-- Are edicts valid for a line? -/
def edcsB (L : Int) (js : List Int) (l : List Edc) : Bool := lineB L js && decide (l.length ≤ 50) && allE L l && numB (nosE l l.length)
set_option maxRecDepth 100000 in
set_option maxHeartbeats 1000000 in
theorem ValidEdicts_r (L : Int) (a : Option Addr) (js : List Int) (ca : Nat) (aa : Option Addr) (l : List Edc) (cl : Nat) (w : World) (hI : IntsS w a js) (hA : EdS w aa l) :
    Calls Tryz.prog 58 #[.agg #[.int .i64 L, .slice a js.length ca], .slice aa l.length cl] w fun e w' => e = .returned (.bool (edcsB L js l)) ∧ Below w.heap.size w w' := by
  have H1 := Lib.hid (fun W (hW : Below w.heap.size w W) => ValidLine_r L a js ca W (hI.below hW))
  have H2 := Lib.hid (fun W (hW : Below w.heap.size w W) (hB : w.heap.size < W.heap.size) (c0 : W.cell? ⟨w.heap.size, 0, none⟩ = some (.int .i64 L)) (c1 : W.cell? ⟨w.heap.size, 1, none⟩ = some (.slice a js.length ca)) => containsEd_any aa l cl #[.pointer (some ⟨w.heap.size, 0, none⟩)] (fun j => !(edcB L (ge l j))) W (hA.below hW) (fun j W' hj hW' => ed1_r L a js ca w.heap.size (ge l j) W' (Nat.lt_of_lt_of_le hB hW'.size) (cell_below c0 hW') (cell_below c1 hW')))
  have H3 := Lib.hid (fun W (hW : Below w.heap.size w W) (h : l.length ≤ 100000000) => numberedE_r aa l cl W (hA.below hW) h)
  have hlen := hA.1
  have HV : Hid (edcsB L js l = (lineB L js && decide (l.length ≤ 50) && allE L l && numB (nosE l l.length))) := Lib.hid rfl
  have hcv : anyK (fun j => !(edcB L (ge l j))) l.length = !(allE L l) := by unfold allE; simp
  rw [hcv] at H2
  clear hcv hI hA
  cases g0 : lineB L js with
  | false =>
    rw [g0] at H1
    have HR : Hid (edcsB L js l = false) := Lib.hid (by rw [HV.out, g0]; simp)
    clear HV H2 H3 g0
    go_enter Tryz.func58, Tryz.ntmps58
    go_wp2_with fail
    obtain ⟨wB, hwB⟩ : ∃ wB, w.alloc (.cells #[.int .i64 L, .slice a js.length ca] 24) = wB := ⟨_, rfl⟩
    have hb : Below w.heap.size w wB := by rw [← hwB]; exact (Below.refl _ _).alloc (Nat.le_refl _) _
    have hz : w.heap.size < wB.heap.size := by rw [← hwB]; simp
    have p0 : wB.cell? ⟨w.heap.size, 0, none⟩ = some (.int .i64 L) := by rw [← hwB]; simp [go_sem]
    have p1 : wB.cell? ⟨w.heap.size, 1, none⟩ = some (.slice a js.length ca) := by rw [← hwB]; simp [go_sem]
    rw [hwB]
    clear hwB

    go_wp2_with (go_at_call 42; refine (H1.out _ hb).mono ?_; rintro e w7 ⟨rfl, hb7⟩)
    go_ret
    exact ⟨by rw [HR.out]; rfl, below_onR hb hb7⟩
  | true =>
    rw [g0] at H1
    by_cases h50 : l.length ≤ 50
    · have d50 : decide ((l.length : Int) ≤ 50) = true := decide_eq_true (by omega)
      cases g1 : allE L l with
      | false =>
        rw [g1] at H2
        have HR : Hid (edcsB L js l = false) := Lib.hid (by rw [HV.out, g0, g1]; simp)
        clear HV H3 g0 g1
        go_enter Tryz.func58, Tryz.ntmps58
        go_wp2_with fail
        obtain ⟨wB, hwB⟩ : ∃ wB, w.alloc (.cells #[.int .i64 L, .slice a js.length ca] 24) = wB := ⟨_, rfl⟩
        have hb : Below w.heap.size w wB := by rw [← hwB]; exact (Below.refl _ _).alloc (Nat.le_refl _) _
        have hz : w.heap.size < wB.heap.size := by rw [← hwB]; simp
        have p0 : wB.cell? ⟨w.heap.size, 0, none⟩ = some (.int .i64 L) := by rw [← hwB]; simp [go_sem]
        have p1 : wB.cell? ⟨w.heap.size, 1, none⟩ = some (.slice a js.length ca) := by rw [← hwB]; simp [go_sem]
        rw [hwB]
        clear hwB

        go_wp2_with (go_at_call 42; refine (H1.out _ hb).mono ?_; rintro e w7 ⟨rfl, hb7⟩; have hz7 := hb7.size; have p07 := cell_below p0 hb7; have p17 := cell_below p1 hb7)
        refine (H2.out _ (below_onR hb hb7) (by omega) p07 p17).mono ?_
        rintro e w8 ⟨rfl, hb8⟩
        go_wp2_with fail
        go_ret
        exact ⟨by rw [HR.out]; rfl, below_onR (below_onR hb hb7) hb8⟩
      | true =>
        rw [g1] at H2
        have HR : Hid (edcsB L js l = numB (nosE l l.length)) := Lib.hid (by rw [HV.out, g0, g1, decide_eq_true h50]; simp)
        clear HV g0 g1
        go_enter Tryz.func58, Tryz.ntmps58
        go_wp2_with fail
        obtain ⟨wB, hwB⟩ : ∃ wB, w.alloc (.cells #[.int .i64 L, .slice a js.length ca] 24) = wB := ⟨_, rfl⟩
        have hb : Below w.heap.size w wB := by rw [← hwB]; exact (Below.refl _ _).alloc (Nat.le_refl _) _
        have hz : w.heap.size < wB.heap.size := by rw [← hwB]; simp
        have p0 : wB.cell? ⟨w.heap.size, 0, none⟩ = some (.int .i64 L) := by rw [← hwB]; simp [go_sem]
        have p1 : wB.cell? ⟨w.heap.size, 1, none⟩ = some (.slice a js.length ca) := by rw [← hwB]; simp [go_sem]
        rw [hwB]
        clear hwB

        go_wp2_with (go_at_call 42; refine (H1.out _ hb).mono ?_; rintro e w7 ⟨rfl, hb7⟩; have hz7 := hb7.size; have p07 := cell_below p0 hb7; have p17 := cell_below p1 hb7)
        refine (H2.out _ (below_onR hb hb7) (by omega) p07 p17).mono ?_
        rintro e w8 ⟨rfl, hb8⟩
        have hbA := below_onR (below_onR hb hb7) hb8
        generalize numB (nosE l l.length) = NB at *
        go_wp2_with fail
        refine (H3.out _ hbA (by omega)).mono ?_
        rintro e w9 ⟨rfl, hb9⟩
        go_wp2_with fail
        go_ret
        exact ⟨by rw [HR.out]; cases NB <;> rfl, below_onR hbA hb9⟩
    · have d50 : decide ((l.length : Int) ≤ 50) = false := decide_eq_false (by omega)
      have HR : Hid (edcsB L js l = false) := Lib.hid (by rw [HV.out, g0, decide_eq_false h50]; simp)
      clear HV H2 H3 g0
      go_enter Tryz.func58, Tryz.ntmps58
      go_wp2_with fail
      obtain ⟨wB, hwB⟩ : ∃ wB, w.alloc (.cells #[.int .i64 L, .slice a js.length ca] 24) = wB := ⟨_, rfl⟩
      have hb : Below w.heap.size w wB := by rw [← hwB]; exact (Below.refl _ _).alloc (Nat.le_refl _) _
      have hz : w.heap.size < wB.heap.size := by rw [← hwB]; simp
      have p0 : wB.cell? ⟨w.heap.size, 0, none⟩ = some (.int .i64 L) := by rw [← hwB]; simp [go_sem]
      have p1 : wB.cell? ⟨w.heap.size, 1, none⟩ = some (.slice a js.length ca) := by rw [← hwB]; simp [go_sem]
      rw [hwB]
      clear hwB

      go_wp2_with (go_at_call 42; refine (H1.out _ hb).mono ?_; rintro e w7 ⟨rfl, hb7⟩)
      go_ret
      exact ⟨by rw [HR.out]; rfl, below_onR hb hb7⟩
end Go.Proofs.YtneafbhiencjlaaGreatDoor
