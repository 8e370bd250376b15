/-
  keptAll and whole of the law TopCarried. By an AI agent.
-/
import Derived.Test.YtdiabpcpcilclaaRoadY
import Derived.Test.YtdiabpcpcilclaaRoadTn
import Derived.Test.YtdiabpcpcilclaaRoadI
import Derived.Test.YtdiabpcpcilclaaRoadPn
import Derived.Deep.RegionHeld3
import Derived.BigQuiet
namespace Go.Proofs.Ytdiabpcpcilclaa
set_option linter.unusedVariables false
set_option linter.unusedSimpArgs false
open Go.RowKit

/-- What keptAll returns. -/
def KalE (w : World) (q : List Spn) (e : Ending) (w' : World) : Prop := ∃ b c, e = .returned (.tuple #[.slice b q.length c, .bool true]) ∧ PairsS w' b q ∧ Below w.heap.size w w'
theorem allQ_take (l : List Chg) (q : List Spn) (u v k : Nat) (h : k < q.length) : allQ l (q.take (k + 1)) u v = allQ l (q.take k) u v ++ canL (wayQ l [gp q k] u v) := by
  rw [take_gp h]; simp [allQ]
set_option maxRecDepth 100000 in
set_option maxHeartbeats 2000000 in
theorem keptAll_any (N L : Int) (a : Option Addr) (l : List Chg) (ca : Nat) (b0 : Option Addr) (q : List Spn) (c0 : Nat) (u v : Nat) (w : World) (hA : QuadS w a l) (hca : l.length ≤ ca) (hP : PairsS w b0 q) (hr : RoadOk N L l) (hu : u ≤ l.length) (hv : v ≤ l.length) (hV : AllV q) (hI : InV (lenK L l u) q) (hn : (allQ l q u v).length ≤ 1000) :
    Calls Try.prog 28 #[.agg #[.int .i64 N, .int .i64 L, .slice a l.length ca], .slice b0 q.length c0, .int .i64 u, .int .i64 v] w (KalE w (canL (allQ l q u v))) := by
  have h40 := hr.2.2.1
  obtain ⟨A1, A2, A3, A4⟩ := allQ_ok hr hu hv hV hI
  have hlv := (len_bd hr v hv).2
  have hok : okL (allQ l q u v) = true := (okL_iff _).2 ⟨hn, A1, inV_mono hlv A2⟩
  have he0 : errL N L l [(u : Int), (v : Int)] = 0 := errL_ok hr (by rw [win2, btw_t (by omega) (by omega), btw_t (by omega) (by omega)]; rfl)
  have HK : Hid (∀ k, k < q.length → ∀ W, Below w.heap.size w W → Calls Try.prog 10 #[.agg #[.int .i64 N, .int .i64 L, .slice a l.length ca], .agg #[.int .i64 (gp q k).1, .int .i64 (gp q k).2], .int .i64 u, .int .i64 v] W (LstE W (canL (wayQ l [gp q k] u v)) 0)) := Lib.hid fun k hk W hW => by
    have h1 := Kept_any N L a l ca (gp q k).1 (gp q k).2 u v W (hA.below hW) hca
    have hv2 := hV _ (gp_mem hk)
    have hi2 := hI _ (gp_mem hk)
    have e1 : kpE N L l (gp q k).1 (gp q k).2 u v = 0 := by unfold kpE; rw [if_pos he0, Int.toNat_natCast, strB_t ⟨hi2.1, hv2, hi2.2.2⟩, if_pos rfl]
    have e2 : kpL N L l (gp q k).1 (gp q k).2 u v = canL (wayQ l [gp q k] u v) := by
      unfold kpL; rw [if_pos e1, Int.toNat_natCast, Int.toNat_natCast]
      unfold keptP wayQ
      rw [keptK_Q]
    rw [e1, e2] at h1
    exact h1
  have HN : Hid (∀ k, k < q.length → allQ l (q.take (k + 1)) u v = allQ l (q.take k) u v ++ canL (wayQ l [gp q k] u v)) := Lib.hid fun k hk => allQ_take l q u v k hk
  have HLn : Hid (∀ k, (allQ l (q.take k) u v).length ≤ 1000) := Lib.hid fun k => by
    have e : allQ l q u v = allQ l (q.take k) u v ++ allQ l (q.drop k) u v := by unfold allQ; rw [← List.flatMap_append, List.take_append_drop]
    rw [e, List.length_append] at hn
    omega
  have HEnd : Hid (allQ l (q.take q.length) u v = allQ l q u v) := Lib.hid (by rw [List.take_length])
  have H0 : Hid (allQ l (q.take 0) u v = []) := Lib.hid (by simp [allQ])
  have HUn : Hid (∀ b c W, PairsS W b (allQ l q u v) → Calls Try.prog 15 #[.slice b (allQ l q u v).length c] W (LstE W (canL (allQ l q u v)) 0)) := Lib.hid fun b c W h => by
    have := Union_any b _ c W h
    unfold unL unE at this
    rw [if_pos hok, if_pos hok] at this
    exact this
  have HPo : Hid (∀ W base b c, W.ownsRow base 26 2 (.slice b (allQ l q u v).length c) (allQ l q u v).length (clS (allQ l q u v)) → PairsS W b (allQ l q u v)) := Lib.hid fun W base b c h => pairs_own h (by omega) fun j hj => inV_64 (inV_mono hlv A2) (Int.le_refl _) hj
  obtain ⟨K, hK⟩ : ∃ K : Nat → List Spn, (fun k => allQ l (q.take k) u v) = K := ⟨_, rfl⟩
  have hK2 : ∀ k, allQ l (q.take k) u v = K k := fun k => by rw [← hK]
  simp only [hK2] at HN HLn HEnd H0
  generalize allQ l q u v = X at *
  generalize canL X = RR at *
  have HW : Hid (∀ k, k < q.length → ∃ Z, canL (wayQ l [gp q k] u v) = Z) := Lib.hid fun k _ => ⟨_, rfl⟩
  obtain ⟨hq9, -, qb, qo, hadr, hcell⟩ := hP
  have HC := Lib.hid hcell
  have HL : Hid (0 < q.length → b0 = some ⟨qb, qo, none⟩) := Lib.hid fun h => hadr (pos_ne (n := 0) h)
  clear hA hca hr hV hI hn A1 A2 A3 A4 hlv hok he0 hK hK2 hadr hcell
  go_enter Try.func28, Try.ntmps28
  go_wp2_with fail
  obtain ⟨wo, hwo⟩ : ∃ wo, w.alloc (.cells #[.int .i64 N, .int .i64 L, .slice a l.length ca] 24) = wo := ⟨_, rfl⟩
  have hB0 := RdBox.start w N L a l ca 24
  rw [hwo] at hB0 ⊢
  clear hwo
  obtain ⟨hbo, p00, p10, p20⟩ := hB0
  have P0 := Lib.hid p00
  have P1 := Lib.hid p10
  have P2 := Lib.hid p20
  clear p00 p10 p20
  go_loopw [10, 11] (fun s i wr => ∃ k : Nat, k ≤ q.length ∧ i = .int .i64 k ∧ (∃ b c, s = .slice b (K k).length c) ∧ Hid (wr.ownsRow wo.heap.size 26 2 s (K k).length (clS (K k))) ∧ Below wo.heap.size wo wr) (fun _ i _ => q.length - (intOf i).toNat)
  case atStart => exact ⟨0, Nat.zero_le _, rfl, ⟨none, 0, by rw [H0.out]; rfl⟩, Lib.hid (by rw [H0.out]; exact ⟨rfl, .inl ⟨rfl, rfl⟩⟩), Below.refl _ _⟩
  case round =>
    obtain ⟨k, hk, rfl, ⟨av, cv, rfl⟩, HRow, hbr⟩ := hrel
    by_cases hlt : k < q.length
    · obtain rfl := HL.out (by omega)
      have hbw := below_on hbo hbr
      have e0 := cell_below (HC.out k hlt).1 hbw
      have e1 := cell_below (HC.out k hlt).2 hbw
      have p0 := cell_below P0.out hbr
      have p1 := cell_below P1.out hbr
      have p2 := cell_below P2.out hbr
      have HKk := Lib.hid (HK.out k hlt)
      have HNk := Lib.hid (HN.out k hlt)
      have hl0 := HLn.out k
      have hl1 := HLn.out (k + 1)
      have hkl : (k : Int) < (q.length : Int) := by omega
      have hk0 : (0 : Int) ≤ (k : Int) := by omega
      have hmeas : q.length - (k + 1) < q.length - k := by omega
      have hos := hbr.size
      rw [HNk.out, List.length_append] at hl1
      clear HK HN HLn HEnd H0 HUn HPo HW HC HL P0 P1 P2
      obtain ⟨Z, hZ⟩ : ∃ Z, canL (wayQ l [gp q k] u v) = Z := ⟨_, rfl⟩
      rw [hZ] at HKk HNk hl1
      clear hZ
      obtain ⟨S1, hS1⟩ : ∃ S1, K (k + 1) = S1 := ⟨_, rfl⟩
      rw [hS1] at HNk
      have HS1 := Lib.hid hS1
      clear hS1
      generalize K k = S0 at *
      generalize (gp q k).1 = x at *
      generalize (gp q k).2 = y at *
      have hz := block_lt p0
      have hzq := block_lt e0
      go_wp2_with fail
      go_region_held3 (fun w' => w'.cell? ⟨w.heap.size, 0, none⟩ = some (.int .i64 N) ∧ w'.cell? ⟨w.heap.size, 1, none⟩ = some (.int .i64 L) ∧ w'.cell? ⟨w.heap.size, 2, none⟩ = some (.slice a l.length ca) ∧ w'.cell? ⟨qb, qo + k * 2, none⟩ = some (.int .i64 x) ∧ w'.cell? ⟨qb, qo + k * 2 + 1, none⟩ = some (.int .i64 y)) (go_keep)
        (first
          | (go_at_call 10
             refine (HKk.out _ (by first | exact hbw | exact hbw.drew | exact below_drewN hbw _)).mono ?_
             rintro E w9 ⟨b9, c9, rfl, hp9, hb9, -⟩
             have p0 := (hb9.cell (p := ⟨w.heap.size, 0, none⟩) hz).trans p0
             have p1 := (hb9.cell (p := ⟨w.heap.size, 1, none⟩) hz).trans p1
             have p2 := (hb9.cell (p := ⟨w.heap.size, 2, none⟩) hz).trans p2
             have e0 := (hb9.cell (p := ⟨qb, qo + k * 2, none⟩) hzq).trans e0
             have e1 := (hb9.cell (p := ⟨qb, qo + k * 2 + 1, none⟩) hzq).trans e1
             have H9 := Lib.hid hp9
             have hrb : Below wr.heap.size wr w9 := by first | exact hb9 | exact ((Below.refl _ _).drew).trans hb9
             have HRow := Lib.hid (owns_below HRow.out hrb)
             have hbr := below_on hbr hrb
             clear hp9))
      all_goals
        go_wp2_with (first | (at_builtin; go_loud (refine app_spans _ rfl _ _ rfl wo.heap.size _ S0.length cv (clS S0) (by rfl) (by first | exact HRow.out | exact owns_below HRow.out ((Below.refl _ _).drew)) b9 Z c9 (by rfl) (by first | exact H9.out | exact H9.out.below ((Below.refl _ _).drew)) (by omega) (by first | exact hbr.size | exact (hbr.drew).size) ?_)))
        intro b6 c6 w6 ho6 hb6
        have hin : Hid ((∃ b c, Value.slice b6 (S0.length + Z.length) c6 = .slice b S1.length c) ∧ Hid (w6.ownsRow wo.heap.size 26 2 (.slice b6 (S0.length + Z.length) c6) S1.length (clS S1)) ∧ Below wo.heap.size wo w6) := Lib.hid (by
          rw [HNk.out, List.length_append, clS_append]
          exact ⟨⟨_, _, rfl⟩, Lib.hid ho6, by first | exact hbr.trans hb6 | exact (hbr.drew).trans hb6⟩)
        clear ho6 hb6 HRow H9 HKk HNk e0 e1 p0 p1 p2
        go_wp2_with fail
        go_roundw
        case rel => exact ⟨k + 1, by omega, by go_num, by rw [HS1.out]; exact hin.out.1, by rw [HS1.out]; exact hin.out.2.1, hin.out.2.2⟩
        case measure => first | (simp [intOf]; exact hmeas) | simpa [intOf] using hmeas
    · obtain rfl : k = q.length := by omega
      have hPx : Hid (PairsS wr av X ∧ (K q.length).length = X.length) := Lib.hid (by
        have h := HRow.out
        rw [HEnd.out] at h
        exact ⟨HPo.out _ _ _ _ h, by rw [HEnd.out]⟩)
      have hbw := below_on hbo hbr
      rw [hPx.out.2]
      clear HK HN HLn HEnd H0 HPo HW HC HL P0 P1 P2 HRow
      go_wp2_with fail
      refine (HUn.out av cv wr hPx.out.1).mono ?_
      rintro e w2 ⟨b9, c9, rfl, hp9, hb9, -⟩
      have hE : Hid (KalE w RR (.returned (.tuple #[.slice b9 RR.length c9, .bool true])) w2) := Lib.hid ⟨b9, c9, rfl, hp9, below_on hbw hb9⟩
      clear hp9 hb9 HUn hPx
      go_wp2_with fail
      go_ret2
      exact hE.out

set_option maxRecDepth 100000 in
set_option maxHeartbeats 1000000 in
theorem whole_any (a : Option Addr) (q : List Spn) (ca : Nat) (w : World) (hA : PairsS w a q) (hC : Canon q) (hI : InV 10000000 q) :
    Calls Try.prog 29 #[.slice a q.length ca] w fun e w' => e = .returned (.int .i64 (sumL q)) ∧ Below w.heap.size w w' := by
  obtain ⟨hlen, -, blk, off, hadr, hcell⟩ := hA
  have HC := Lib.hid hcell
  have HL : Hid (0 < q.length → a = some ⟨blk, off, none⟩) := Lib.hid fun h => hadr (pos_ne (n := 0) h)
  have hsum := canon_sum hC hI
  have HS : Hid (∀ k, 0 ≤ sumL (q.take k) ∧ sumL (q.take k) ≤ 10000000) := Lib.hid fun k => by
    have h1 := sum_take_le (q := q) (fun p hp => (hI p hp).2.1) k
    have h2 := sum_nonneg (q := q.take k) fun p hp => (hI p (List.mem_of_mem_take hp)).2.1
    omega
  have HIn : Hid (∀ k, k < q.length → 0 ≤ (gp q k).1 ∧ (gp q k).1 < (gp q k).2 ∧ (gp q k).2 ≤ 10000000) := Lib.hid fun k hk => by
    have h1 := hI _ (gp_mem hk)
    have h2 := hC.2 _ (gp_mem hk)
    omega
  have HG := Lib.hid (fun i j (hij : i < j) (hj : j < q.length) => canon_gp hC hij hj)
  have HT : Hid (sumL (q.take q.length) = sumL q) := Lib.hid (by rw [List.take_length])
  clear hcell hadr hI hC hsum
  go_enter Try.func29, Try.ntmps29
  go_wp2_with fail
  go_loopw [3, 4] (fun n i wr => ∃ k : Nat, k ≤ q.length ∧ i = .int .i64 k ∧ n = .int .i64 (sumL (q.take k)) ∧ Below w.heap.size w wr) (fun _ i _ => q.length - (intOf i).toNat)
  case atStart => exact ⟨0, Nat.zero_le _, rfl, rfl, Below.refl _ _⟩
  case round =>
    obtain ⟨k, hk, rfl, rfl, hbr⟩ := hrel
    by_cases hlt : k < q.length
    · obtain rfl := HL.out (by omega)
      have c0 := cell_below (HC.out k hlt).1 hbr
      have c1 := cell_below (HC.out k hlt).2 hbr
      have HN := Lib.hid (sum_take hlt)
      obtain ⟨s0, s1⟩ := HS.out k
      obtain ⟨t0, t1⟩ := HS.out (k + 1)
      obtain ⟨x0, xy, y1⟩ := HIn.out k hlt
      have hkl : (k : Int) < (q.length : Int) := by omega
      have hk0 : (0 : Int) ≤ (k : Int) := by omega
      have hmeas : q.length - (k + 1) < q.length - k := by omega
      rw [HN.out] at t0 t1
      by_cases hk1 : k = 0
      · subst hk1
        clear HC HL HS HIn HT HG
        generalize (gp q 0).1 = x at *
        generalize (gp q 0).2 = y at *
        generalize sumL (q.take 0) = n at *
        have w1 : IntKind.i64.wrap (y - x) = y - x := IntWalk.i64_in _ (by omega)
        have w2 : IntKind.i64.wrap (n + (y - x)) = n + (y - x) := IntWalk.i64_in _ (by omega)
        have d0 : decide (y ≤ x) = false := decide_eq_false (by omega)
        have c0 : wr.cell? ⟨blk, off, none⟩ = some (.int .i64 x) := by simpa using c0
        have c1 : wr.cell? ⟨blk, off + 1, none⟩ = some (.int .i64 y) := by simpa using c1
        go_wp2_with fail
        go_quiet (fail)
        go_wp2_with fail
        go_quiet (fail)
        go_wp2_with fail
        go_roundw
        case rel => exact ⟨0 + 1, by omega, by go_num, by rw [HN.out], below_drewN hbr _⟩
        case measure => first | (simp [intOf]; exact hmeas) | simpa [intOf] using hmeas
      · obtain ⟨j, hj⟩ : ∃ j, k = j + 1 := ⟨k - 1, by omega⟩
        have hG := HG.out j k (by omega) hlt
        have c2 := cell_below (HC.out j (by omega)).2 hbr
        have hj0 : (0 : Int) ≤ (j : Int) := by omega
        have hjl : (j : Int) < (q.length : Int) := by omega
        have hji : (k : Int) - 1 = (j : Int) := by omega
        have hjw : IntKind.i64.wrap ((k : Int) - 1) = (j : Int) := by rw [hji]; exact IntWalk.i64_in _ (by omega)
        have dk : decide (0 < k) = true := decide_eq_true (by omega)
        clear HC HL HS HIn HT HG hj
        generalize (gp q k).1 = x at *
        generalize (gp q k).2 = y at *
        generalize (gp q j).2 = z at *
        generalize sumL (q.take k) = n at *
        have w1 : IntKind.i64.wrap (y - x) = y - x := IntWalk.i64_in _ (by omega)
        have w2 : IntKind.i64.wrap (n + (y - x)) = n + (y - x) := IntWalk.i64_in _ (by omega)
        have d0 : decide (y ≤ x) = false := decide_eq_false (by omega)
        have d1 : decide (x ≤ z) = false := decide_eq_false (by omega)
        go_wp2_with fail
        go_quiet (fail)
        go_wp2_with fail
        go_quiet (fail)
        go_wp2_with fail
        go_roundw
        case rel => exact ⟨k + 1, by omega, by go_num, by rw [HN.out], below_drewN hbr _⟩
        case measure => first | (simp [intOf]; exact hmeas) | simpa [intOf] using hmeas
    · obtain rfl : k = q.length := by omega
      have hT := Lib.hid HT.out
      clear HC HL HS HIn HT HG
      go_wp2_with fail
      go_ret
      exact ⟨by rw [hT.out] <;> rfl, hbr⟩
end Go.Proofs.Ytdiabpcpcilclaa
