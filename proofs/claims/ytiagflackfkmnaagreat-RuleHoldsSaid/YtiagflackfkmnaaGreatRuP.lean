/-
  held of a course of package rule. By an AI agent.
-/
import Derived.Test.YtiagflackfkmnaaGreatRuO
import Derived.Deep.RegionHeld3
import Derived.Deep.AppendLies
import Derived.Deep.DeepCutAuto
import Derived.StillTailTactics
import Derived.BigQuiet
import Derived.BigRegion
namespace Go.Proofs.YtiagflackfkmnaaGreat
set_option linter.unusedVariables false
set_option linter.unusedSimpArgs false
open Go.RowKit

theorem heldInfo : (Tryz.prog.info? 75).map (fun i => (i.zero, i.size, i.bytes)) = some (some (.agg #[.int .i64 0, .int .i64 0, .int .i64 0]), 3, 24) := by kernel_rfl
/-- The stretches with a value. -/
def heldL (P : List Tri) : List Tri := P.filter fun p => p.2.2 != 0
theorem heldL_len {P : List Tri} {k : Nat} (h : P.length ≤ k) : (heldL P).length ≤ k := Nat.le_trans (List.length_filter_le _ _) h
theorem heldL_succ (P : List Tri) {k : Nat} (h : k < P.length) : heldL (P.take (k + 1)) = if (gt3 P k).2.2 = 0 then heldL (P.take k) else heldL (P.take k) ++ [((gt3 P k).1, (gt3 P k).2.1, (gt3 P k).2.2)] := by
  have e : gt3 P k = P[k] := by unfold gt3; simp [h]
  rw [e]
  unfold heldL
  rw [List.take_add_one, List.getElem?_eq_getElem h, List.filter_append]
  by_cases hv : P[k].2.2 = 0
  · rw [if_pos hv]; simp [hv]
  · rw [if_neg hv]; simp [hv]
/-- What held returns. -/
def HldE (w : World) (M : List Tri) (e : Ending) (w' : World) : Prop := ∃ b c, e = .returned (.slice b M.length c) ∧ w'.ownsRow w.heap.size 75 3 (.slice b M.length c) M.length (cl3 M) ∧ Below w.heap.size w w'
set_option maxRecDepth 100000 in
set_option maxHeartbeats 4000000 in
theorem heldT_r (a : Option Addr) (cuts : List Int) (ca : Nat) (lb : Array Value) (f : Int → Int) (w : World) (hA : IntsS w a cuts) (hne : cuts ≠ []) (hn : cuts.length ≤ 1000000)
    (hf : ∀ m W, m ∈ cuts → Below w.heap.size w W → Calls Tryz.prog 97 (#[.int .i64 m] ++ lb) W fun e w' => e = .returned (.int .i64 (f m)) ∧ Below W.heap.size W w') :
    Calls Tryz.prog 59 #[.agg #[.func (.func 97) #[] lb, .slice a cuts.length ca]] w (HldE w (heldL (prtK (ascL cuts) f (ascL cuts).length))) := by
  have HP := Lib.hid (fun W (hW : Below w.heap.size w W) => partsT_r a cuts ca lb f W (hA.below hW) hne hn (fun m W' hm hb => hf m W' hm (below_onR hW hb)))
  have HLen : Hid ((prtK (ascL cuts) f (ascL cuts).length).length ≤ cuts.length) := Lib.hid (Nat.le_trans (prtK_len _ _ _) (asc_len cuts))
  obtain ⟨n0, hi, hz0, hz1, hz2⟩ := info_parts heldInfo
  have HU : Hid (∀ W e w', PrtE W (ascL cuts) f e w' → ∃ b c, e = .returned (.slice b (prtK (ascL cuts) f (ascL cuts).length).length c) ∧ w'.ownsRow W.heap.size 119 3 (.slice b (prtK (ascL cuts) f (ascL cuts).length).length c) (prtK (ascL cuts) f (ascL cuts).length).length (cl3 (prtK (ascL cuts) f (ascL cuts).length)) ∧ Below W.heap.size W w') := Lib.hid fun W e w' h => h
  clear hf hA
  go_enter Tryz.func59, Tryz.ntmps59
  go_wp2_with (go_at_call 72; refine (HP.out _ ((Below.refl w.heap.size w).alloc (Nat.le_refl _) _)).mono ?_; rintro e w7 hw7; obtain ⟨b, c, rfl, hr7, hb7⟩ := HU.out _ _ _ hw7)
  generalize prtK (ascL cuts) f (ascL cuts).length = P at *
  have hbo : Below w.heap.size w w7 := below_onR ((Below.refl w.heap.size w).alloc (Nat.le_refl _) _) hb7
  have HOwn := Lib.hid hr7
  have HCz : Hid (∀ k, k < P.length → ∃ g, b = some ⟨g, 0, none⟩ ∧ w7.cell? ⟨g, k * 3, none⟩ = some (.int .i64 (gt3 P k).1) ∧ w7.cell? ⟨g, k * 3 + 1, none⟩ = some (.int .i64 (gt3 P k).2.1) ∧ w7.cell? ⟨g, k * 3 + 2, none⟩ = some (.int .i64 (gt3 P k).2.2)) := Lib.hid fun k hk => by
    have h := HOwn.out
    rcases h.2 with ⟨h1, h2⟩ | ⟨g2, c2, cur, h1, _⟩
    · omega
    · obtain ⟨rfl, rfl⟩ : b = some ⟨g2, 0, none⟩ ∧ c = c2 := by simpa using h1
      have hh := cl3_c P k hk
      refine ⟨g2, rfl, ?_, ?_, ?_⟩
      · rw [World.ownsRow.cellAt h (k * 3) (by omega)]; exact hh.1
      · rw [World.ownsRow.cellAt h (k * 3 + 1) (by omega)]; exact hh.2.1
      · rw [World.ownsRow.cellAt h (k * 3 + 2) (by omega)]; exact hh.2.2
  clear HOwn hr7 hb7 hw7 HU HP
  obtain ⟨wo, rfl⟩ : ∃ wo : World, wo = w7 := ⟨_, rfl⟩
  have hPl := HLen.out
  go_wp2_with fail
  go_loopw [3, 12] (fun q i wr => ∃ k : Nat, k ≤ P.length ∧ i = .int .i64 k ∧ (∃ a c, q = .slice a (heldL (P.take k)).length c) ∧ Hid (wr.ownsRow wo.heap.size 75 3 q (heldL (P.take k)).length (cl3 (heldL (P.take k)))) ∧ Below wo.heap.size wo wr) (fun _ i _ => P.length - (intOf i).toNat)
  case atStart => exact ⟨0, Nat.zero_le _, rfl, ⟨none, 0, rfl⟩, Lib.hid ⟨rfl, .inl ⟨rfl, rfl⟩⟩, Below.refl _ _⟩
  case round =>
    obtain ⟨k, hk, rfl, ⟨av, cv, rfl⟩, HRow, hbr⟩ := hrel
    have hMl : (heldL (P.take k)).length ≤ k := heldL_len (by simp; omega)
    by_cases hlt : k < P.length
    · obtain ⟨g, rfl, c0, c1, c2⟩ := HCz.out k hlt
      have c0 := cell_below c0 hbr
      have c1 := cell_below c1 hbr
      have c2 := cell_below c2 hbr
      have HN : Hid (heldL (P.take (k + 1)) = if (gt3 P k).2.2 = 0 then heldL (P.take k) else heldL (P.take k) ++ [((gt3 P k).1, (gt3 P k).2.1, (gt3 P k).2.2)]) := Lib.hid (heldL_succ P hlt)
      clear HCz
      generalize (gt3 P k).1 = x at *
      generalize (gt3 P k).2.1 = y at *
      generalize (gt3 P k).2.2 = v at *
      obtain ⟨M, hM⟩ : ∃ M, heldL (P.take k) = M := ⟨_, rfl⟩
      rw [hM] at HN HRow hMl ⊢
      clear hM
      have hk64 : (k : Int) < (P.length : Int) := by omega
      have hsz := hbr.size
      have hbA : Below wo.heap.size wo (wr.alloc (.cells #[.int .i64 x, .int .i64 y, .int .i64 v] 119)) := hbr.alloc hsz _
      have HRow := Lib.hid (HRow.out.alloc (.cells #[.int .i64 x, .int .i64 y, .int .i64 v] 119))
      have s0 : (wr.alloc (.cells #[.int .i64 x, .int .i64 y, .int .i64 v] 119)).cell? ⟨wr.heap.size, 0, none⟩ = some (.int .i64 x) := by simp [go_sem]
      have s1 : (wr.alloc (.cells #[.int .i64 x, .int .i64 y, .int .i64 v] 119)).cell? ⟨wr.heap.size, 1, none⟩ = some (.int .i64 y) := by simp [go_sem]
      have s2 : (wr.alloc (.cells #[.int .i64 x, .int .i64 y, .int .i64 v] 119)).cell? ⟨wr.heap.size, 2, none⟩ = some (.int .i64 v) := by simp [go_sem]
      by_cases hv : v = 0
      · have hN := HN.out
        rw [if_pos hv] at hN
        have HNn := Lib.hid hN
        clear hN HN s0 s1 s2
        subst hv
        go_wp2_with fail
        go_roundw
        case rel => exact ⟨k + 1, by omega, by go_num, ⟨_, cv, by rw [HNn.out]⟩, Lib.hid (by rw [HNn.out]; exact HRow.out), hbA⟩
        case measure => simp [intOf]; omega
      · have hN := HN.out
        rw [if_neg hv] at hN
        have HAP : Hid (M.length + 1 = (heldL (P.take (k + 1))).length ∧ cl3 M ++ [.int .i64 x, .int .i64 y, .int .i64 v] = cl3 (heldL (P.take (k + 1)))) := Lib.hid (by rw [hN, cl3_app]; exact ⟨by simp, rfl⟩)
        clear hN HN
        have hv2 : (v == 0) = false := beq_false_of_ne hv
        obtain ⟨wA, hwA⟩ : ∃ wA, wr.alloc (.cells #[.int .i64 x, .int .i64 y, .int .i64 v] 119) = wA := ⟨_, rfl⟩
        rw [hwA] at s0 s1 s2 HRow hbA
        have hown := Lib.hid (HRow.out.alloc (.cells #[.int .i64 x, .int .i64 y, .int .i64 v] 75))
        have hbs := hbA.size
        go_wp2_with (first | (at_builtin; go_loud (refine wpList_append_lies _ rfl _ _ 47 rfl wo.heap.size 75 n0 _ 3 24 Tryz.underlying47 hi hz0 hz1 hz2 rfl (by decide) (.slice _ M.length cv) M.length _ (by rfl) hown.out ⟨wA.heap.size, 0, none⟩ 1 1 [.int .i64 x, .int .i64 y, .int .i64 v] (by rfl) (by rfl) ?d1 ?d2 (by decide) ?d3 ?d4 ?d5 _ rfl ?_)))
        case d1 =>
          refine World.news_of_block (cs := #[.int .i64 x, .int .i64 y, .int .i64 v]) (t := 75) (fr := (0, 0)) ?_
          exact heap_alloc_new _ _
        case d2 => simp [Value.oneCell']
        case d3 => unfold maxLen; omega
        case d4 => omega
        case d5 => first | (simp; omega) | simp | omega
        intro g6 c6 w6 hown6 hgrow6 hat6 hlt6
        have hb6 : Below wo.heap.size wo w6 := ((hbA.alloc hbs _).grown hgrow6 (by first | (simp; omega) | simp | omega) (fun z hz => owns_blockI hown.out hz))

        go_wp2_with fail
        go_roundw
        case rel => exact ⟨k + 1, by omega, by go_num, ⟨_, c6, by rw [← HAP.out.1]⟩, Lib.hid (by rw [← HAP.out.1, ← HAP.out.2]; exact hown6), hb6⟩
        case measure => simp [intOf]; omega
    · obtain rfl : k = P.length := by omega
      have hbw := hbo.trans (hbr.mono hbo.size)
      have HEnd : Hid (HldE w (heldL P) (.returned (.slice av (heldL (P.take P.length)).length cv)) wr) := Lib.hid ⟨av, cv, by rw [List.take_length], by have := owns_baseI HRow.out hbo.size; rwa [List.take_length] at this, hbw⟩
      clear HRow
      go_wp2_with fail
      go_ret
      exact HEnd.out
end Go.Proofs.YtiagflackfkmnaaGreat
