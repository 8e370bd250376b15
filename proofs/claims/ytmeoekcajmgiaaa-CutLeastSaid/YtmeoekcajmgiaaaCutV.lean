/-
  The walk of Least. By an AI agent.
-/
import Derived.Test.YtmeoekcajmgiaaaCutU
import Derived.Test.YtmeoekcajmgiaaaCutE
import Derived.Deep.AppendLies
namespace Go.Proofs.Ytmeoekcajmgiaaa
set_option linter.unusedVariables false
set_option linter.unusedSimpArgs false
open Go.RowKit

/-- The sizes of the pieces of the first k asks. -/
def szL (K : Int) (l : List (Int × Int)) : Nat → List Int
  | 0 => []
  | k + 1 => szL K l k ++ List.replicate (gp l k).2.toNat ((gp l k).1 + K)
def isL (xs : List Int) : List Value := xs.map fun x => .int .i64 x
theorem isL_snoc (xs : List Int) (x : Int) : isL xs ++ [.int .i64 x] = isL (xs ++ [x]) := by unfold isL; simp
theorem szL_len {L K : Int} {l : List (Int × Int)} (h : CutOk L K l) : ∀ k, k ≤ l.length → (szL K l k).length ≤ 50 * k
  | 0, _ => by simp [szL]
  | k + 1, hk => by
    have ih := szL_len h k (by omega)
    have := (h.2.2.2 k (by omega)).2.2
    rw [szL, List.length_append, List.length_replicate]
    omega
theorem szL_bd {L K : Int} {l : List (Int × Int)} (h : CutOk L K l) : ∀ k, k ≤ l.length → ∀ x, x ∈ szL K l k → 0 ≤ x ∧ x ≤ 2000
  | 0, _ => by simp [szL]
  | k + 1, hk => by
    intro x hx
    rw [szL, List.mem_append, List.mem_replicate] at hx
    rcases hx with hx | ⟨_, rfl⟩
    · exact szL_bd h k (by omega) x hx
    · have := (h.2.2.2 k (by omega)).1
      have := h.1
      have := h.2.1
      omega
theorem gi_mem {q : List Int} {j : Nat} (h : j < q.length) : gi q j ∈ q := by
  unfold gi
  rw [List.getD_eq_getElem?_getD, List.getElem?_eq_getElem h]
  exact List.getElem_mem h
/-- What Least answers. -/
noncomputable def leastV (L K : Int) (l : List (Int × Int)) : Int := if cutB L K l = true then (if (szL K l l.length).length ≤ 10 then (tabS (szL K l l.length) (L + K) (2 ^ (szL K l l.length).length - 1) (2 ^ (szL K l l.length).length - 1)).1 else 0) else 0
noncomputable def leastE (L K : Int) (l : List (Int × Int)) : Int := if cutB L K l = true then (if (szL K l l.length).length ≤ 10 then 0 else 11) else 40
theorem owns_ints {w0 : Nat} {w : World} {a : Option Addr} {n c : Nat} {xs : List Int} (h : w.ownsRow w0 3 1 (.slice a n c) n (isL xs)) (hn : n = xs.length) (hx : ∀ x, x ∈ xs → 0 ≤ x ∧ x ≤ 2000) (hl : n ≤ 400) : IntsS w a xs := by
  refine ⟨by omega, fun i hi => ?_, ?_⟩
  · have := hx _ (gi_mem hi)
    unfold I64
    omega
  · rcases h.2 with ⟨h1, h2⟩ | ⟨g, cap, cur, h1, h2⟩
    · have : xs = [] := List.length_eq_zero_iff.1 (by omega)
      subst this
      exact ⟨0, 0, fun h => absurd rfl h, fun i hi => absurd hi (Nat.not_lt_zero _)⟩
    · simp only [Value.slice.injEq, true_and] at h1
      obtain ⟨rfl, rfl⟩ := h1
      refine ⟨g, 0, fun _ => rfl, fun i hi => ?_⟩
      rw [Nat.zero_add, World.ownsRow.cellAt h i (by omega)]
      unfold isL gi
      rw [List.getElem?_map, List.getElem?_eq_getElem hi, List.getD_eq_getElem?_getD, List.getElem?_eq_getElem hi]
      rfl

set_option maxRecDepth 100000 in
set_option maxHeartbeats 4000000 in
theorem Least_any (L K : Int) (aa : Option Addr) (l : List (Int × Int)) (ca : Nat) (w : World) (hA : PairsS w aa l) :
    Calls Try.prog 8 #[.agg #[.int .i64 L, .int .i64 K, .slice aa l.length ca]] w fun e w' => e = .returned (.tuple #[.int .i64 (leastV L K l), .int .i64 (leastE L K l)]) ∧ Below w.heap.size w w' := by
  have HV := Lib.hid (fun W (hW : Below w.heap.size w W) => Valid_any L K aa l ca W (hA.below hW))
  have hS := InBox.start w L K (.slice aa l.length ca) 24
  have la := hA.1
  by_cases hv : cutB L K l = true
  rotate_left
  · have hv : cutB L K l = false := by simpa using hv
    have e1 : leastV L K l = 0 := by unfold leastV; rw [hv]; rfl
    have e2 : leastE L K l = 40 := by unfold leastE; rw [hv]; rfl
    rw [e1, e2]
    rw [hv] at HV
    clear hA e1 e2 hv
    go_enter Try.func8, Try.ntmps8
    go_wp2_with fail
    refine (HV.out _ hS.1).mono ?_
    rintro e w1 ⟨rfl, hb1⟩
    obtain ⟨hb, p0, p1, p2⟩ := hS.on hb1
    go_wp2_with fail
    go_ret2
    exact ⟨rfl, hb⟩
  · have hok := cutB_iff.1 hv
    obtain ⟨⟨L0, L1⟩, ⟨K0, K1⟩, l8, hask⟩ := hok
    have HLen := Lib.hid (szL_len (cutB_iff.1 hv))
    have HBd := Lib.hid (szL_bd (cutB_iff.1 hv) l.length (Nat.le_refl _))
    have HCnt : Hid (∀ k, k < l.length → 0 ≤ (gp l k).2 ∧ (gp l k).2 ≤ 50) := Lib.hid fun k hk => (hask k hk).2
    have HSz : Hid (∀ k, k < l.length → ∀ W, Below w.heap.size w W → Calls Try.prog 16 #[.agg #[.int .i64 L, .int .i64 K, .slice aa l.length ca], .int .i64 k] W fun e w' => e = .returned (.int .i64 ((gp l k).1 + K)) ∧ Below W.heap.size W w') := Lib.hid fun k hk W hW => size_any L K aa l ca k W (hA.below hW) hk (by have := (hask k hk).1; omega) (by have := (hask k hk).1; omega) K0 K1
    have HRm : Hid (∀ W, Calls Try.prog 18 #[.agg #[.int .i64 L, .int .i64 K, .slice aa l.length ca]] W fun e w' => e = .returned (.int .i64 (L + K)) ∧ Below W.heap.size W w') := Lib.hid fun W => room_any L K aa l ca W (by omega) L1 K0 K1
    have HRes : Hid (∀ n, n = (szL K l l.length).length → ¬ n ≤ 10 → leastV L K l = 0 ∧ leastE L K l = 11) := Lib.hid fun n hn h => by
      subst hn
      unfold leastV leastE
      rw [if_pos hv, if_pos hv, if_neg h, if_neg h]
      exact ⟨rfl, rfl⟩
    have HFew : Hid (∀ n, n = (szL K l l.length).length → n ≤ 10 → leastE L K l = 0 ∧ ∀ a c W base, W.ownsRow base 3 1 (.slice a n c) n (isL (szL K l l.length)) → Calls Try.prog 17 #[.slice a n c, .int .i64 (L + K)] W fun e w' => e = .returned (.int .i64 (leastV L K l)) ∧ Below W.heap.size W w') := Lib.hid fun n hn h => by
      refine ⟨by unfold leastE; rw [if_pos hv, ← hn, if_pos h], ?_⟩
      intro a c W base hrow
      have := fewest_any a (szL K l l.length) c (L + K) W (owns_ints hrow hn HBd.out (by omega)) (by omega) (by omega) (fun j hj => HBd.out _ (gi_mem hj))
      rw [← hn] at this
      rw [show leastV L K l = (tabS (szL K l l.length) (L + K) (2 ^ n - 1) (2 ^ n - 1)).1 from by unfold leastV; rw [if_pos hv, ← hn, if_pos h]]
      exact this
    rw [hv] at HV
    obtain ⟨hlen, hbd, blk, off, hadr, hc⟩ := hA
    have HC := Lib.hid hc
    have HL : Hid (0 < l.length → aa = some ⟨blk, off, none⟩) := Lib.hid fun h => hadr (pos_ne (n := 0) h)
    generalize leastV L K l = RV at *
    generalize leastE L K l = RE at *
    clear hc hadr hbd hask hlen hv HBd
    obtain ⟨i0, hi, hz0, hz1, hz2⟩ := info_parts intInfo
    go_enter Try.func8, Try.ntmps8
    go_wp2_with fail
    refine (HV.out _ hS.1).mono ?_
    rintro e w1 ⟨rfl, hb1⟩
    have HS1 := Lib.hid (hS.on hb1)
    obtain ⟨hb, p0, p1, p2⟩ := HS1.out
    have hws : w.heap.size < w1.heap.size := block_lt p0
    clear hS hb1 HV
    go_wp2_with fail
    go_loopw [4, 13] (fun v i wr => ∃ k n : Nat, k ≤ l.length ∧ i = .int .i64 k ∧ Hid (n = (szL K l k).length) ∧ (∃ a c, v = .slice a n c) ∧ Hid (wr.ownsRow w1.heap.size 3 1 v n (isL (szL K l k))) ∧ Below w1.heap.size w1 wr) (fun _ i _ => l.length - (intOf i).toNat)
    case atStart => exact ⟨0, 0, Nat.zero_le _, rfl, Lib.hid (by rw [szL]; rfl), ⟨none, 0, rfl⟩, Lib.hid ⟨rfl, .inl ⟨rfl, rfl⟩⟩, Below.refl _ _⟩
    case round =>
      obtain ⟨k, n, hk, rfl, HN, ⟨a, c, rfl⟩, HRow, hbr⟩ := hrel
      have HS2 := Lib.hid (HS1.out.on hbr)
      have n400 : n ≤ 400 := by have := HN.out; have := HLen.out k hk; omega
      obtain ⟨hb, p0, p1, p2⟩ := HS2.out
      by_cases hlt : k < l.length
      · obtain rfl := HL.out (by omega)
        have c0 := cell_below (HC.out k hlt).1 hb
        have c1 := cell_below (HC.out k hlt).2 hb
        obtain ⟨y0, y1⟩ := HCnt.out k hlt
        have HSk := Lib.hid (HSz.out k hlt)
        have HNk : Hid (szL K l (k + 1) = szL K l k ++ List.replicate (gp l k).2.toNat ((gp l k).1 + K)) := Lib.hid rfl
        have HLk := Lib.hid (HLen.out k hk)
        obtain ⟨Y, hY⟩ : ∃ Y : Nat, (gp l k).2 = (Y : Int) := ⟨(gp l k).2.toNat, by omega⟩
        have hY2 : (gp l k).2.toNat = Y := by omega
        rw [hY2] at HNk
        rw [hY] at c1 y1
        clear hY hY2 y0
        generalize (gp l k).1 + K = z at HSk HNk
        generalize (gp l k).1 = x at c0
        go_wp2_with fail
        obtain ⟨wo, hwo⟩ : ∃ wo, wr.alloc (.cells #[.int .i64 x, .int .i64 Y] 42) = wo := ⟨_, rfl⟩
        have hbo : Below wr.heap.size wr wo := by rw [← hwo]; exact (Below.refl _ _).alloc (Nat.le_refl _) _
        have q1 : wo.cell? ⟨wr.heap.size, 1, none⟩ = some (.int .i64 Y) := by rw [← hwo]; simp [go_sem]
        have hrow0 := Lib.hid (owns_below HRow.out hbo)
        have hbs := hbr.size
        have hb0 : Below w1.heap.size w1 wo := hbr.trans (hbo.mono hbs)
        rw [hwo]
        clear hwo HRow
        go_wp2_with fail
        go_loopw [4, 20] (fun v i wq => ∃ m nn : Nat, m ≤ Y ∧ i = .int .i64 m ∧ Hid (nn = n + m) ∧ (∃ a c, v = .slice a nn c) ∧ Hid (wq.ownsRow w1.heap.size 3 1 v nn (isL (szL K l k ++ List.replicate m z))) ∧ Below w1.heap.size w1 wq) (fun _ i _ => Y - (intOf i).toNat)
        case atStart => exact ⟨0, n, Nat.zero_le _, rfl, Lib.hid rfl, ⟨a, c, rfl⟩, Lib.hid (by rw [List.replicate_zero, List.append_nil]; exact hrow0.out), hb0⟩
        case round =>
          obtain ⟨m, nn, hm, rfl, HNN, ⟨a2, c2, rfl⟩, HRow2, hbq⟩ := hrel
          have HS3 := Lib.hid (HS1.out.on hbq)
          obtain ⟨hb, p0, p1, p2⟩ := HS3.out
          have nn400 : nn ≤ 450 := by have := HNN.out; omega
          by_cases hmY : m < Y
          · have hmY2 : (m : Int) < (Y : Int) := by omega
            go_wp2_with fail
            refine (HSk.out _ hb).mono ?_
            rintro e w5 ⟨rfl, hb5⟩
            have hrow5 := owns_below HRow2.out hb5
            have hbq5 : Below w1.heap.size w1 w5 := hbq.trans (hb5.mono hbq.size)
            have hbs5 := hbq5.size
            have hown := Lib.hid (hrow5.alloc (.cells #[.int .i64 z] 3))
            have HS5 := Lib.hid (HS3.out.on hb5)
            clear hrow5
            obtain ⟨hb, p0, p1, p2⟩ := HS5.out
            go_wp2_with (first | (at_builtin; go_loud (refine wpList_append_lies _ rfl _ _ 33 rfl w1.heap.size 3 i0 _ 1 8 Try.underlying33 hi hz0 hz1 hz2 rfl (by decide) (.slice a2 nn c2) nn _ (by rfl) hown.out ⟨w5.heap.size, 0, none⟩ 1 1 [.int .i64 z] (by rfl) (by rfl) ?d1 ?d2 (by decide) ?d3 ?d4 ?d5 _ rfl ?_)))
            case d1 =>
              refine World.news_of_block (cs := #[.int .i64 z]) (t := 3) (fr := (0, 0)) ?_
              exact heap_alloc_new _ _
            case d2 => simp [Value.oneCell']
            case d3 => unfold maxLen; omega
            case d4 => omega
            case d5 => first | (simp; omega) | simp
            intro g c3 w6 hown6 hgrow6 hat6 hlt6
            have hb6 : Below w1.heap.size w1 w6 := (hbq5.alloc hbs5 _).grown hgrow6 (by first | (simp; omega) | simp) (fun y hy => by
              rcases hown.out.2 with ⟨h, _⟩ | ⟨g2, c4, cur, h1, h2, _⟩
              · rw [h] at hy; simp [Value.ownBlock] at hy
              · rw [h1] at hy; simp [Value.ownBlock] at hy; omega)
            rw [isL_snoc, List.append_assoc, ← List.replicate_succ'] at hown6
            go_wp2_with fail
            go_roundw
            case rel => exact ⟨m + 1, nn + 1, by omega, by go_num, Lib.hid (by have := HNN.out; omega), ⟨_, c3, rfl⟩, Lib.hid hown6, hb6⟩
            case measure => simp [intOf]; omega
          · obtain rfl : m = Y := by omega
            have hmY2 : ¬ (m : Int) < (m : Int) := by omega
            rw [← HNk.out] at HRow2
            have hlen2 : nn = (szL K l (k + 1)).length := by rw [HNk.out, List.length_append, List.length_replicate, ← HN.out]; exact HNN.out
            go_wp2_with fail
            go_roundw
            case rel => exact ⟨k + 1, nn, by omega, by go_num, Lib.hid hlen2, ⟨a2, c2, rfl⟩, HRow2, hbq⟩
            case measure => simp [intOf]; omega
      · obtain rfl : k = l.length := by omega
        have hn400 := n400
        by_cases h10 : n ≤ 10
        · obtain ⟨rfl, HF⟩ := HFew.out n HN.out h10
          have HF := Lib.hid HF
          have h10i : ¬ (10 : Int) < (n : Int) := by omega
          clear HRes HFew
          go_wp2_with fail
          refine (HRm.out _).mono ?_
          rintro e w2 ⟨rfl, hb2⟩
          have hbs := hbr.size
          have hrow := owns_below HRow.out hb2
          obtain ⟨hb, p0, p1, p2⟩ := HS2.out.on hb2
          go_wp2_with fail
          refine (HF.out _ _ _ _ hrow).mono ?_
          rintro e w3 ⟨rfl, hb3⟩
          go_wp2_with fail
          go_ret2
          exact ⟨rfl, hb.trans (hb3.mono hb.size)⟩
        · obtain ⟨rfl, rfl⟩ := HRes.out n HN.out h10
          have h10i : (10 : Int) < (n : Int) := by omega
          go_wp2_with fail
          go_ret2
          exact ⟨rfl, hb⟩
end Go.Proofs.Ytmeoekcajmgiaaa
