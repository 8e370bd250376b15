/-
  The walks of the reference's Least, of few at any cutting, and of Wide. By an AI agent.
-/
import Derived.Test.YtmeoekcajmgiaaaCutYq
import Derived.Test.YtmeoekcajmgiaaaCutX
namespace Go.Proofs.Ytmeoekcajmgiaaa
set_option linter.unusedVariables false
set_option linter.unusedSimpArgs false
open Go.RowKit

theorem top_len {q : List Int} {m : Int} (h10 : q.length ≤ 10) (hm : 0 ≤ m) (hq : ∀ s, s ∈ q → 0 ≤ s) : (topS q m).1 ≤ q.length := by
  unfold topS
  have ho : ordS (2 ^ q.length - 1) (List.range q.length) := ordS_full.2 (List.Perm.refl _)
  have h := tab_least h10 hm (fun j => gi_all (p := fun x => 0 ≤ x) (Int.le_refl 0) hq j) _ _ rfl _ (full_lt _) ho
  have h2 := leS_rolls h
  have h3 := runS_count (m := m) ((List.range q.length).map (gi q)) (0, m)
  rw [List.length_map, List.length_range] at h3
  simp at h3
  omega
/-- How the search and the table agree. -/
theorem least_pk {Ln : Nat} {K : Int} {l : List (Int × Int)} (h : CutOk Ln K l) (h10 : (pcZ l Ln).length ≤ 10) : ∃ T : Nat, leastV Ln K l = T ∧ leastE Ln K l = 0 ∧ T ≤ 10 ∧ ∀ n : Nat, pkF n (Ln + K) (szP K l (pcZ l Ln)) 0 (fun _ => 0) = decide (T ≤ n) := by
  have hl := pcZ_len K l Ln (fun x hx => (h.2.2.2 x hx).1)
  have h10K : (szL K l l.length).length ≤ 10 := by omega
  have h100 : (szL 0 l l.length).length ≤ 10 := by rw [← szL_lenK K]; exact h10K
  obtain ⟨e1, e2, e3⟩ := least_few h h100
  have hpos : ∀ s, s ∈ szL K l l.length → 0 < s ∧ s ≤ Ln + K := fun s hs => by
    rw [szL_pcA] at hs
    obtain ⟨x, hx, rfl⟩ := List.mem_map.1 hs
    have hx := pcA_lt l l.length x hx
    have := (h.2.2.2 x hx).1
    have := h.2.1.1
    omega
  have hm : 0 ≤ (Ln : Int) + K := by have := h.2.1.1; omega
  have ht := top_len h10K hm (fun s hs => Int.le_of_lt (hpos s hs).1)
  obtain ⟨T, hT⟩ : ∃ T : Nat, leastV Ln K l = T := ⟨(leastV Ln K l).toNat, by omega⟩
  refine ⟨T, hT, e2, by omega, fun n => ?_⟩
  have := pk_table h10K hm hpos (szP_perm K l Ln (fun x hx => (h.2.2.2 x hx).1)) n
  rw [Bool.eq_iff_iff, this, decide_eq_true_eq]
  rw [hT] at e1
  unfold topS at e1
  rw [← e1]
  omega
set_option maxRecDepth 100000 in
set_option maxHeartbeats 1000000 in
theorem refLeast_any (L K : Int) (aa : Option Addr) (l : List (Int × Int)) (ca : Nat) (w : World) (hA : PairsS w aa l) :
    Calls Try.prog 9 #[.agg #[.int .i64 L, .int .i64 K, .slice aa l.length ca]] w fun e w' => e = .returned (.tuple #[.int .i64 (leastV L K l), .int .i64 (leastE L K l)]) ∧ Below w.heap.size w w' := by
  have HV := Lib.hid (fun W (hW : Below w.heap.size w W) => refValid_any L K aa l ca W (hA.below hW))
  have hS := InBox.start w L K (.slice aa l.length ca) 24
  have la := hA.1
  by_cases hv : cutB L K l = true
  rotate_left
  · have hv : cutB L K l = false := by simpa using hv
    have e1 : leastV L K l = 0 := by unfold leastV; rw [hv]; rfl
    have e2 : leastE L K l = 40 := by unfold leastE; rw [hv]; rfl
    rw [e1, e2]
    rw [hv] at HV
    clear hA e1 e2 hv
    go_enter Try.func9, Try.ntmps9
    go_wp2_with fail
    refine (HV.out _ hS.1).mono ?_
    rintro e w1 ⟨rfl, hb1⟩
    obtain ⟨hb, p0, p1, p2⟩ := hS.on hb1
    go_wp2_with fail
    go_ret2
    exact ⟨rfl, hb⟩
  · have hok := cutB_iff.1 hv
    obtain ⟨Ln, rfl⟩ : ∃ Ln : Nat, L = Ln := ⟨L.toNat, by have := hok.1.1; omega⟩
    have HP := Lib.hid (fun W (hW : Below w.heap.size w W) => pieces_any Ln K aa l ca W (hA.below hW) hok)
    have HBig : Hid (10 < (pcZ l Ln).length → leastV Ln K l = 0 ∧ leastE Ln K l = 11) := Lib.hid fun h => by
      have hl := pcZ_len K l Ln (fun x hx => (hok.2.2.2 x hx).1)
      have h10 : ¬ (szL K l l.length).length ≤ 10 := by omega
      unfold leastV leastE
      rw [if_pos hv, if_pos hv, if_neg h10, if_neg h10]
      exact ⟨rfl, rfl⟩
    have HSm := Lib.hid (fun h => least_pk (K := K) hok h)
    have HPk : Hid ((pcZ l Ln).length ≤ 10 → ∀ (n : Nat), n ≤ 100 → ∀ W, Below w.heap.size w W → ∀ a cl, IntsS W a (pcZ l Ln) → Calls Try.prog 21 #[.agg #[.int .i64 Ln, .int .i64 K, .slice aa l.length ca], .slice a (pcZ l Ln).length cl, .int .i64 0, .slice none 0 0, .int .i64 n] W fun e w' => e = .returned (.bool (pkF n (Ln + K) (szP K l (pcZ l Ln)) 0 (fun _ => 0))) ∧ Below W.heap.size W w') := Lib.hid fun h10 n hn W hW a cl hI => by
      have := pack_all Ln K l hok n hn (pcZ l Ln).length aa ca a (pcZ l Ln) cl 0 none [] 0 W (hA.below hW) hI (pcZ_bd l Ln) (by omega) h10 ⟨by simp, 0, 0, fun _ => none, fun _ => 0, fun h => absurd rfl h, fun i hi => absurd hi (Nat.not_lt_zero _)⟩ (Nat.le_refl _) (fun j hj => absurd hj (Nat.not_lt_zero _))
      rw [List.drop_zero, show ldL K l [] = (fun _ => 0) from funext fun j => by unfold ldL; rw [gr_nilY (by simp), sumF_nil]] at this
      exact this
    rw [hv] at HV
    clear hA hv hok
    go_enter Try.func9, Try.ntmps9
    go_wp2_with fail
    refine (HV.out _ hS.1).mono ?_
    rintro e w1 ⟨rfl, hb1⟩
    have hS1 := hS.on hb1
    obtain ⟨hb, p0, p1, p2⟩ := hS1
    go_wp2_with fail
    refine (HP.out _ hb).mono ?_
    rintro e w2 ⟨a9, c9, rfl, hI, hb2⟩
    have hB2 := hb.trans (hb2.mono hb.size)
    replace p0 := cell_below p0 hb2
    replace p1 := cell_below p1 hb2
    replace p2 := cell_below p2 hb2
    have HI := Lib.hid hI
    clear hI hb2 HV HP
    obtain ⟨Z, hZ⟩ : ∃ Z, pcZ l Ln = Z := ⟨_, rfl⟩
    rw [hZ] at HI HBig HSm HPk ⊢
    clear hZ
    by_cases hz : 10 < Z.length
    · obtain ⟨e1, e2⟩ := HBig.out hz
      have E1 := Lib.hid e1
      have E2 := Lib.hid e2
      clear e1 e2 HBig HSm HPk
      go_wp2_with fail
      go_ret2
      exact ⟨by rw [E1.out, E2.out]; try rfl, hB2⟩
    · have hz10 : Z.length ≤ 10 := by omega
      obtain ⟨T, e1, e2, e3, e4⟩ := HSm.out hz10
      have E1 := Lib.hid e1
      have E2 := Lib.hid e2
      have HPx := Lib.hid (HPk.out hz10)
      have HE := Lib.hid e4
      have P0 := Lib.hid p0
      have P1 := Lib.hid p1
      have P2 := Lib.hid p2
      clear e1 e2 e4 HBig HSm HPk p0 p1 p2
      go_wp2_with fail
      go_loopw [5] (fun n9 wr => ∃ n : Nat, n ≤ T ∧ n9 = .int .i64 n ∧ Below w2.heap.size w2 wr) (fun n9 _ => T - (intOf n9).toNat)
      case atStart => exact ⟨0, Nat.zero_le _, rfl, Below.refl _ _⟩
      case round =>
        obtain ⟨n, hn, rfl, hbn⟩ := hrel
        have p0 := cell_below P0.out hbn
        have p1 := cell_below P1.out hbn
        have p2 := cell_below P2.out hbn
        have hbw := hB2.trans (hbn.mono hB2.size)
        have HPn := Lib.hid (HPx.out n (by omega) wr hbw a9 c9 (HI.out.below hbn))
        rw [HE.out n] at HPn
        by_cases hT : T ≤ n
        · obtain rfl : n = T := by omega
          rw [decide_eq_true hT] at HPn
          clear hT
          go_wp2_with fail
          refine HPn.out.mono ?_
          rintro e w4 ⟨rfl, hb4⟩
          go_wp2_with fail
          go_ret2
          exact ⟨by rw [E1.out, E2.out]; try rfl, hbw.trans (hb4.mono hbw.size)⟩
        · rw [decide_eq_false hT] at HPn
          go_wp2_with fail
          refine HPn.out.mono ?_
          rintro e w4 ⟨rfl, hb4⟩
          go_wp2_with fail
          go_roundw
          case rel => exact ⟨n + 1, by omega, by go_num, hbn.trans (hb4.mono hbn.size)⟩
          case measure => simp [intOf]; omega
set_option maxRecDepth 100000 in
theorem wideNil2_any (L K : Int) (aa : Option Addr) (l : List (Int × Int)) (ca : Nat) (w : World) (hl : l.length ≤ 9223372036854775807) :
    Calls Try.prog 5 #[.agg #[.int .i64 L, .int .i64 K, .slice aa l.length ca], .slice none 0 0] w fun e w' => e = .returned (.bool (decide ((30 : Int) < l.length))) ∧ Below w.heap.size w w' := by
  by_cases h : (30 : Int) < l.length
  · rw [decide_eq_true h]
    go_enter Try.func5, Try.ntmps5
    go_wp2_with fail
    go_ret
    exact ⟨rfl, (Below.refl _ _).alloc (Nat.le_refl _) _⟩
  · rw [decide_eq_false h]
    go_enter Try.func5, Try.ntmps5
    go_wp2_with fail
    refine wp_loop_rounds 1 ?_
    rw [rounds_succ]
    go_wp2_with fail
    go_ret
    exact ⟨rfl, (Below.refl _ _).alloc (Nat.le_refl _) _⟩
set_option maxRecDepth 100000 in
set_option maxHeartbeats 1000000 in
theorem fewSome_any (L K : Int) (aa : Option Addr) (l : List (Int × Int)) (ca : Nat) (N : Int) (w : World) (hA : PairsS w aa l) (hl : l.length ≤ 30) (N0 : 0 ≤ N) (N1 : N ≤ 100) :
    Calls Try.prog 6 #[.agg #[.int .i64 L, .int .i64 K, .slice aa l.length ca], .int .i64 N] w fun e w' => SB e ∧ Below w.heap.size w w' := by
  obtain ⟨hlen, hbd, blk, off, hadr, hc⟩ := hA
  have HC := Lib.hid hc
  have HBd := Lib.hid hbd
  have HL : Hid (0 < l.length → aa = some ⟨blk, off, none⟩) := Lib.hid fun h => hadr (pos_ne (n := 0) h)
  have hS := InBox.start w L K (.slice aa l.length ca) 24
  clear hc hadr hbd hlen
  go_enter Try.func6, Try.ntmps6
  go_wp2_with fail
  obtain ⟨wB, hwB⟩ : ∃ wB, w.alloc (.cells #[.int .i64 L, .int .i64 K, .slice aa l.length ca] 24) = wB := ⟨_, rfl⟩
  rw [hwB] at hS ⊢
  clear hwB
  go_loopw [5, 6] (fun s i wr => ∃ k : Nat, k ≤ l.length ∧ i = .int .i64 k ∧ (∃ F : Nat, F ≤ 100 * k ∧ s = .int .i64 (F : Int)) ∧ InBox w wr L K (.slice aa l.length ca)) (fun _ i _ => l.length - (intOf i).toNat)
  case atStart => exact ⟨0, Nat.zero_le _, rfl, ⟨0, by omega, rfl⟩, hS⟩
  case round =>
    obtain ⟨k, hk, rfl, ⟨F, hF, rfl⟩, hB⟩ := hrel
    obtain ⟨hb, p0, p1, p2⟩ := hB
    have hFb : F ≤ 3000 := by omega
    by_cases hlt : k < l.length
    · obtain rfl := HL.out (by omega)
      have c1 := cell_below (HC.out k hlt).2 hb
      obtain ⟨y0, y1⟩ := (HBd.out k hlt).2
      generalize (gp l k).2 = y at *
      by_cases hy : N < y
      · go_wp2_with fail
        go_ret
        exact ⟨⟨_, rfl⟩, hb⟩
      · rcases (show y ≤ 0 ∨ 0 < y by omega) with hy0 | hy0
        · rcases (show y = 0 ∨ y < 0 by omega) with hy1 | hy1
          · subst hy1
            go_wp2_with fail
            go_roundw
            case rel => exact ⟨k + 1, by omega, by go_num, ⟨F, by omega, rfl⟩, ⟨hb, p0, p1, p2⟩⟩
            case measure => simp [intOf]; omega
          · go_wp2_with fail
            go_roundw
            case rel => exact ⟨k + 1, by omega, by go_num, ⟨F, by omega, rfl⟩, ⟨hb, p0, p1, p2⟩⟩
            case measure => simp [intOf]; omega
        · obtain ⟨yn, rfl⟩ : ∃ yn : Nat, y = yn := ⟨y.toNat, by omega⟩
          go_wp2_with fail
          go_roundw
          case rel => exact ⟨k + 1, by omega, by go_num, ⟨F + yn, by omega, by go_num⟩, ⟨hb, p0, p1, p2⟩⟩
          case measure => simp [intOf]; omega
    · obtain rfl : k = l.length := by omega
      go_wp2_with fail
      go_ret
      exact ⟨⟨_, rfl⟩, hb⟩
end Go.Proofs.Ytmeoekcajmgiaaa
