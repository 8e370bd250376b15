/-
  The walk of the reference's at. By an AI agent.
-/
import Derived.Test.YtmdifgkalooaoaaShopS
import Derived.Deep.RegionHeld3
import Derived.StillTailTactics
namespace Go.Proofs.Ytmdifgkalooaoaa
set_option linter.unusedVariables false
set_option linter.unusedSimpArgs false
open Go.RowKit

set_option maxRecDepth 100000 in
set_option maxHeartbeats 4000000 in
theorem at_sh (s : Sh) (i k : Nat) (w : World) (hI : ShS w s) (hV : ShOk s) (hi : i < s.J.length) (hk : k < (gj s.J i).length) :
    Calls Try.prog 83 #[.agg #[.int .i64 s.O, .int .i64 s.C, .slice s.aH s.H.length s.cH, .int .i64 s.M, .slice s.aS s.S.length s.cS, .slice s.aJ s.J.length s.cJ], .agg #[.int .i64 i, .int .i64 k]] w fun e w' => e = .returned (.agg #[.int .i64 (gs (gj s.J i) k).1, .int .i64 (gs (gj s.J i) k).2.1, .int .i64 (gs (gj s.J i) k).2.2.1, .int .i64 (gs (gj s.J i) k).2.2.2]) ∧ Below w.heap.size w w' := by
  have h12 := hV.2.2.2.1
  have h8 := (hV.2.2.2.2 i hi).1
  obtain ⟨hlJ, blk, off, ad, cp, hadr, hc⟩ := hI.2.2
  have c0 := (hc i hi).1
  have HA := Lib.hid (hadr (fun e => by rw [e] at hi; simp at hi))
  obtain ⟨hln, hbd, b1, f1, hadr1, hc1⟩ := (hc i hi).2.1
  obtain ⟨d0, d1, d2, d3⟩ := hc1 k hk
  have hal := hadr1 (fun e => by rw [e] at hk; simp at hk)
  have hB := ShBox.start w s 25
  have hi0 : (i : Int) < s.J.length := by omega
  have hk0 : (k : Int) < (gj s.J i).length := by omega
  clear hI hV hadr hc hbd hadr1 hc1
  generalize (gs (gj s.J i) k).1 = x0 at *
  generalize (gs (gj s.J i) k).2.1 = x1 at *
  generalize (gs (gj s.J i) k).2.2.1 = x2 at *
  generalize (gs (gj s.J i) k).2.2.2 = x3 at *
  generalize (gj s.J i).length = n at *
  generalize ad i = al at *
  subst hal
  generalize cp i = cl at *
  go_enter Try.func83, Try.ntmps83
  go_wp2_with fail
  obtain ⟨wB, hwB⟩ : ∃ wB, ((w.alloc (.cells #[.int .i64 s.O, .int .i64 s.C, .slice s.aH s.H.length s.cH, .int .i64 s.M, .slice s.aS s.S.length s.cS, .slice s.aJ s.J.length s.cJ] 25)).alloc (.cells #[.int .i64 i, .int .i64 k] 97)).alloc (.cells #[.int .i64 0, .int .i64 0, .int .i64 0, .int .i64 0] 64) = wB := ⟨_, rfl⟩
  have hb0 : Below (w.alloc (.cells #[.int .i64 s.O, .int .i64 s.C, .slice s.aH s.H.length s.cH, .int .i64 s.M, .slice s.aS s.S.length s.cS, .slice s.aJ s.J.length s.cJ] 25)).heap.size (w.alloc (.cells #[.int .i64 s.O, .int .i64 s.C, .slice s.aH s.H.length s.cH, .int .i64 s.M, .slice s.aS s.S.length s.cS, .slice s.aJ s.J.length s.cJ] 25)) wB := by rw [← hwB]; exact ((Below.refl _ _).alloc (Nat.le_refl _) _).alloc (by simp) _
  have q0 : wB.cell? ⟨w.heap.size + 1, 0, none⟩ = some (.int .i64 i) := by rw [← hwB]; simp [go_sem]
  have q1 : wB.cell? ⟨w.heap.size + 1, 1, none⟩ = some (.int .i64 k) := by rw [← hwB]; simp [go_sem]
  have r0 : wB.cell? ⟨w.heap.size + 2, 0, none⟩ = some (.int .i64 0) := by rw [← hwB]; simp [go_sem]
  have r1 : wB.cell? ⟨w.heap.size + 2, 1, none⟩ = some (.int .i64 0) := by rw [← hwB]; simp [go_sem]
  have r2 : wB.cell? ⟨w.heap.size + 2, 2, none⟩ = some (.int .i64 0) := by rw [← hwB]; simp [go_sem]
  have r3 : wB.cell? ⟨w.heap.size + 2, 3, none⟩ = some (.int .i64 0) := by rw [← hwB]; simp [go_sem]
  have u0 : wB.frozen? ⟨w.heap.size + 2, 0, none⟩ = false := by rw [← hwB]; simp [go_sem]
  have u1 : wB.frozen? ⟨w.heap.size + 2, 1, none⟩ = false := by rw [← hwB]; simp [go_sem]
  have u2 : wB.frozen? ⟨w.heap.size + 2, 2, none⟩ = false := by rw [← hwB]; simp [go_sem]
  have u3 : wB.frozen? ⟨w.heap.size + 2, 3, none⟩ = false := by rw [← hwB]; simp [go_sem]
  have hBB := hB.on hb0
  rw [hwB]
  clear hwB hb0 hB
  obtain ⟨hb, p0, p1, p2, p3, p4, p5⟩ := hBB
  have c0 := cell_below c0 hb
  have d0 := cell_below d0 hb
  have d1 := cell_below d1 hb
  have d2 := cell_below d2 hb
  have d3 := cell_below d3 hb
  rw [HA.out] at p5
  have z := block_lt r0
  clear HA
  go_still_tail 11, (by kernel_rfl)
  change wpList _ _ _ _ _ wB.drew
  have r0' : wB.drew.cell? ⟨w.heap.size + 2, 0, none⟩ = some (.int .i64 0) := r0
  have r1' : wB.drew.cell? ⟨w.heap.size + 2, 1, none⟩ = some (.int .i64 0) := r1
  have r2' : wB.drew.cell? ⟨w.heap.size + 2, 2, none⟩ = some (.int .i64 0) := r2
  have r3' : wB.drew.cell? ⟨w.heap.size + 2, 3, none⟩ = some (.int .i64 0) := r3
  have u0' : wB.drew.frozen? ⟨w.heap.size + 2, 0, none⟩ = false := u0
  have u1' : wB.drew.frozen? ⟨w.heap.size + 2, 1, none⟩ = false := u1
  have u2' : wB.drew.frozen? ⟨w.heap.size + 2, 2, none⟩ = false := u2
  have u3' : wB.drew.frozen? ⟨w.heap.size + 2, 3, none⟩ = false := u3
  have hb' : Below w.heap.size w wB.drew := hb.drew
  have z' : w.heap.size + 2 < wB.drew.heap.size := z
  generalize wB.drew = w2 at *
  clear r0 r1 r2 r3 u0 u1 u2 u3 hb z p0 p1 p2 p3 p4 p5 c0 d0 d1 d2 d3 q0 q1
  go_wp2_with fail
  refine bodyPost_ret (v := .agg #[.int .i64 x0, .int .i64 x1, .int .i64 x2, .int .i64 x3]) (by simp [results, Try.results83, go_sem, r0', r1', r2', r3', z']) rfl ⟨rfl, ?_⟩
  repeat (refine Below.setCell ?_ (by first | (simp; omega) | simp) _)
  exact hb'

/-- The minutes of a step, if it is on the machine. -/
def minP (J : List (List Stp)) (m : Int) (p : Int × Int) : Int := if (gs (gj J p.1.toNat) p.2.toNat).1 = m then (gs (gj J p.1.toNat) p.2.toNat).2.1 else 0
def sumP (J : List (List Stp)) (m : Int) : List (Int × Int) → Int
  | [] => 0
  | p :: t => minP J m p + sumP J m t
theorem sumP_app (J : List (List Stp)) (m : Int) : ∀ a b, sumP J m (a ++ b) = sumP J m a + sumP J m b
  | [], b => by simp [sumP]
  | p :: a, b => by rw [List.cons_append, sumP, sumP, sumP_app J m a b]; omega
theorem sumP_row (J : List (List Stp)) (m : Int) (i : Nat) : ∀ n, sumP J m (rowP i n) = ldK (gj J i) m n
  | 0 => by simp [rowP, sumP, ldK]
  | n + 1 => by rw [rowP_next, sumP_app, sumP_row J m i n, ldK]; simp [sumP, minP]
theorem sumP_fl (J : List (List Stp)) (m : Int) : ∀ i, sumP J m (flI J i) = ldJ J m i
  | 0 => by simp [flI, sumP, ldJ]
  | i + 1 => by rw [flI, sumP_app, sumP_fl J m i, sumP_row, ldJ]
theorem take_gp {l : List (Int × Int)} {n : Nat} (h : n < l.length) : l.take (n + 1) = l.take n ++ [gp l n] := by
  rw [List.take_succ_eq_append_getElem h]
  unfold gp
  rw [List.getD_eq_getElem?_getD, List.getElem?_eq_getElem h]
  rfl
theorem sumP_bd {s : Sh} (h : ShOk s) (m : Int) : ∀ n, n ≤ (flP s.J).length → 0 ≤ sumP s.J m ((flP s.J).take n) ∧ sumP s.J m ((flP s.J).take n) ≤ 1440 * n
  | 0, _ => by simp [sumP]
  | n + 1, hn => by
    have ih := sumP_bd h m n (by omega)
    rw [take_gp (by omega), sumP_app]
    obtain ⟨a, b, e, h1, h2⟩ := flP_at (J := s.J) (n := n) (by omega)
    have hs := ((h.2.2.2.2 a h1).2 b h2).2.1
    have hd := h.1
    have : sumP s.J m [gp (flP s.J) n] = minP s.J m ((a : Int), (b : Int)) := by rw [e]; simp [sumP]
    rw [this]
    unfold minP
    simp only [Int.toNat_natCast]
    split <;> omega
theorem aft_zero {s : Sh} (h : ShOk s) : aftV s.O s.C s.H 0 0 = 0 := aftV_eq ⟨by omega, by omega, fun y h1 h2 => by omega⟩

set_option maxRecDepth 100000 in
set_option maxHeartbeats 4000000 in
theorem refLoad_sh (s : Sh) (m : Int) (w : World) (hI : ShS w s) (hV : ShOk s) :
    Calls Try.prog 46 #[.agg #[.int .i64 s.O, .int .i64 s.C, .slice s.aH s.H.length s.cH, .int .i64 s.M, .slice s.aS s.S.length s.cS, .slice s.aJ s.J.length s.cJ], .int .i64 m] w fun e w' => e = .returned (.int .i64 (loadV s m)) ∧ Below w.heap.size w w' := by
  have h12 := hV.2.2.2.1
  have h96 : (flP s.J).length ≤ 96 := by have := flI_len hV _ (Nat.le_refl _); unfold flP; omega
  have HLi := Lib.hid (fun W (hW : Below w.heap.size w W) => list_sh s W (hI.below hW) hV)
  have HAt : Hid (∀ n, n < (flP s.J).length → ∃ x : Stp, minP s.J m (gp (flP s.J) n) = (if x.1 = m then x.2.1 else 0) ∧ (1 ≤ x.2.1 ∧ x.2.1 ≤ 1440) ∧ ∀ W, Below w.heap.size w W → Calls Try.prog 83 #[.agg #[.int .i64 s.O, .int .i64 s.C, .slice s.aH s.H.length s.cH, .int .i64 s.M, .slice s.aS s.S.length s.cS, .slice s.aJ s.J.length s.cJ], .agg #[.int .i64 (gp (flP s.J) n).1, .int .i64 (gp (flP s.J) n).2]] W fun e w' => e = .returned (.agg #[.int .i64 x.1, .int .i64 x.2.1, .int .i64 x.2.2.1, .int .i64 x.2.2.2]) ∧ Below W.heap.size W w') := Lib.hid fun n hn => by
    obtain ⟨a, b, e, h1, h2⟩ := flP_at hn
    have hs := ((hV.2.2.2.2 a h1).2 b h2).2.1
    have hd := hV.1
    refine ⟨gs (gj s.J a) b, by rw [e]; unfold minP; simp only [Int.toNat_natCast], by omega, fun W hW => ?_⟩
    rw [e]
    exact at_sh s a b W (hI.below hW) hV h1 h2
  have HSB := Lib.hid (sumP_bd hV m)
  have HSt : Hid (∀ n, n < (flP s.J).length → sumP s.J m ((flP s.J).take (n + 1)) = sumP s.J m ((flP s.J).take n) + minP s.J m (gp (flP s.J) n)) := Lib.hid fun n hn => by rw [take_gp hn, sumP_app]; simp [sumP]
  have HTot : Hid (sumP s.J m ((flP s.J).take (flP s.J).length) = ldV s m) := Lib.hid (by rw [List.take_length]; exact sumP_fl _ _ _)
  have hlv := ldJ_bd hV m _ (Nat.le_refl _)
  have HAf : Hid (∀ W, Below w.heap.size w W → Calls Try.prog 36 #[.agg #[.int .i64 s.O, .int .i64 s.C, .slice s.aH s.H.length s.cH, .int .i64 s.M, .slice s.aS s.S.length s.cS, .slice s.aJ s.J.length s.cJ], .int .i64 0, .int .i64 (ldV s m)] W fun e w' => e = .returned (.int .i64 (loadV s m)) ∧ Below W.heap.size W w') := Lib.hid fun W hW => by
    obtain ⟨n, hn⟩ : ∃ n : Nat, ldV s m = n := ⟨(ldV s m).toNat, by unfold ldV; omega⟩
    unfold loadV
    rw [hn]
    exact refAfter_sh s 0 n W (hI.below hW).1 hV.2.1 hV.1.1 hV.1.2.1 hV.1.2.2 (by omega) (by omega) (by unfold ldV at hn; omega)
  have HZ : Hid (ldV s m = 0 → loadV s m = 0) := Lib.hid fun h => by unfold loadV; rw [h]; exact aft_zero hV
  have hB := ShBox.start w s 25
  generalize flP s.J = L at *
  clear hI hV hlv
  go_enter Try.func46, Try.ntmps46
  go_wp2_with fail
  obtain ⟨wB, hwB⟩ : ∃ wB, w.alloc (.cells #[.int .i64 s.O, .int .i64 s.C, .slice s.aH s.H.length s.cH, .int .i64 s.M, .slice s.aS s.S.length s.cS, .slice s.aJ s.J.length s.cJ] 25) = wB := ⟨_, rfl⟩
  rw [hwB] at hB ⊢
  clear hwB
  refine (HLi.out _ hB.1).mono ?_
  rintro e w1 ⟨a1, c1, rfl, hP, hb1⟩
  have HB1 := Lib.hid (hB.on hb1)
  clear hb1 hB HLi
  obtain ⟨hlen, hbd, blk, off, hadr, hc⟩ := hP
  have HC := Lib.hid hc
  have HLa : Hid (0 < L.length → a1 = some ⟨blk, off, none⟩) := Lib.hid fun h => hadr (fun e => by rw [e] at h; simp at h)
  clear hbd hadr hc
  go_wp2_with fail
  go_loopw [5, 7] (fun u i wr => ∃ n : Nat, n ≤ L.length ∧ i = .int .i64 n ∧ u = .int .i64 (sumP s.J m (L.take n)) ∧ ShBox w wr s ∧ Below w1.heap.size w1 wr) (fun _ i _ => L.length - (intOf i).toNat)
  case atStart => exact ⟨0, Nat.zero_le _, rfl, by simp [sumP], HB1.out, Below.refl _ _⟩
  case round =>
    clear HB1
    obtain ⟨n, hn, rfl, rfl, hB1, hbo⟩ := hrel
    have HB := Lib.hid hB1
    obtain ⟨hb, p0, p1, p2, p3, p4, p5⟩ := hB1
    by_cases hlt : n < L.length
    · obtain rfl := HLa.out (by omega)
      obtain ⟨c0, c1⟩ := HC.out n hlt
      have c0 := cell_below c0 hbo
      have c1 := cell_below c1 hbo
      obtain ⟨x, hx, ⟨x0, x1⟩, hAt⟩ := HAt.out n hlt
      have HAn := Lib.hid hAt
      have HSn := Lib.hid ((HSt.out n hlt).trans (by rw [hx]))
      obtain ⟨s0, s1⟩ := HSB.out n hn
      have n9 : (n : Int) < L.length := by omega
      have hn96 : n ≤ 96 := by omega
      clear HC HLa HAt HSt HSB HTot HAf HZ hx hAt HB
      generalize sumP s.J m (L.take n) = v at *
      generalize (gp L n).1 = g1 at *
      generalize (gp L n).2 = g2 at *
      obtain ⟨y0, y1, y2, y3⟩ := x
      dsimp only at *
      have z0 := block_lt p0
      have z1 := block_lt c0
      have hB := hb
      have f0 : ∀ W, (Instr.field 64 (.agg #[.int .i64 y0, .int .i64 y1, .int .i64 y2, .int .i64 y3]) 0).run Try.prog W = .ok (.int .i64 y0) W := fun _ => by kernel_rfl
      have f1 : ∀ W, (Instr.field 64 (.agg #[.int .i64 y0, .int .i64 y1, .int .i64 y2, .int .i64 y3]) 1).run Try.prog W = .ok (.int .i64 y1) W := fun _ => by kernel_rfl
      have ws : IntKind.i64.wrap (v + y1) = v + y1 := IntWalk.i64_in _ (by omega)
      clear hb
      by_cases hm : y0 = m
      · have hm' : (y0 == m) = true := by simpa using hm
        have HSn := Lib.hid (HSn.out.trans (by rw [if_pos hm]))
        clear hm
        go_wp2_with fail
        go_region_held3 (fun w' => w'.cell? ⟨w.heap.size, 0, none⟩ = some (.int .i64 s.O) ∧ w'.cell? ⟨w.heap.size, 1, none⟩ = some (.int .i64 s.C) ∧ w'.cell? ⟨w.heap.size, 2, none⟩ = some (.slice s.aH s.H.length s.cH) ∧ w'.cell? ⟨w.heap.size, 3, none⟩ = some (.int .i64 s.M) ∧ w'.cell? ⟨w.heap.size, 4, none⟩ = some (.slice s.aS s.S.length s.cS) ∧ w'.cell? ⟨w.heap.size, 5, none⟩ = some (.slice s.aJ s.J.length s.cJ) ∧ w'.cell? ⟨blk, off + n * 2, none⟩ = some (.int .i64 g1) ∧ w'.cell? ⟨blk, off + n * 2 + 1, none⟩ = some (.int .i64 g2)) (go_keep)
          ((go_at_call 83
            refine (HAn.out _ (by first | exact hB.drew | exact hB | exact hB.drew.drew | exact below_drewN hB _ | exact below_drewN hB.drew _)).mono ?_
            rintro E w9 ⟨rfl, hb9⟩
            have p0 := (hb9.cell (p := ⟨w.heap.size, 0, none⟩) z0).trans p0
            have p1 := (hb9.cell (p := ⟨w.heap.size, 1, none⟩) z0).trans p1
            have p2 := (hb9.cell (p := ⟨w.heap.size, 2, none⟩) z0).trans p2
            have p3 := (hb9.cell (p := ⟨w.heap.size, 3, none⟩) z0).trans p3
            have p4 := (hb9.cell (p := ⟨w.heap.size, 4, none⟩) z0).trans p4
            have p5 := (hb9.cell (p := ⟨w.heap.size, 5, none⟩) z0).trans p5
            have c0 := (hb9.cell (p := ⟨blk, off + n * 2, none⟩) z1).trans c0
            have c1 := (hb9.cell (p := ⟨blk, off + n * 2 + 1, none⟩) z1).trans c1
            have hbo : Below w1.heap.size w1 w9 := by first | exact (hbo.drew).trans (hb9.mono hbo.size) | exact hbo.trans (hb9.mono hbo.size)
            have hB : Below w.heap.size w w9 := by first | exact (hB.drew).trans (hb9.mono hB.size) | exact hB.trans (hb9.mono hB.size)
            have z0 := Nat.lt_of_lt_of_le z0 hb9.size
            have z1 := Nat.lt_of_lt_of_le z1 hb9.size))
        all_goals
          go_wp2_with fail
          go_region_held3 (fun w' => w'.cell? ⟨w.heap.size, 0, none⟩ = some (.int .i64 s.O) ∧ w'.cell? ⟨w.heap.size, 1, none⟩ = some (.int .i64 s.C) ∧ w'.cell? ⟨w.heap.size, 2, none⟩ = some (.slice s.aH s.H.length s.cH) ∧ w'.cell? ⟨w.heap.size, 3, none⟩ = some (.int .i64 s.M) ∧ w'.cell? ⟨w.heap.size, 4, none⟩ = some (.slice s.aS s.S.length s.cS) ∧ w'.cell? ⟨w.heap.size, 5, none⟩ = some (.slice s.aJ s.J.length s.cJ) ∧ w'.cell? ⟨blk, off + n * 2, none⟩ = some (.int .i64 g1) ∧ w'.cell? ⟨blk, off + n * 2 + 1, none⟩ = some (.int .i64 g2)) (go_keep)
            ((go_at_call 83
              refine (HAn.out _ (by first | exact hB.drew | exact hB | exact hB.drew.drew | exact below_drewN hB _ | exact below_drewN hB.drew _)).mono ?_
              rintro E w9 ⟨rfl, hb9⟩
              have p0 := (hb9.cell (p := ⟨w.heap.size, 0, none⟩) z0).trans p0
              have p1 := (hb9.cell (p := ⟨w.heap.size, 1, none⟩) z0).trans p1
              have p2 := (hb9.cell (p := ⟨w.heap.size, 2, none⟩) z0).trans p2
              have p3 := (hb9.cell (p := ⟨w.heap.size, 3, none⟩) z0).trans p3
              have p4 := (hb9.cell (p := ⟨w.heap.size, 4, none⟩) z0).trans p4
              have p5 := (hb9.cell (p := ⟨w.heap.size, 5, none⟩) z0).trans p5
              have c0 := (hb9.cell (p := ⟨blk, off + n * 2, none⟩) z1).trans c0
              have c1 := (hb9.cell (p := ⟨blk, off + n * 2 + 1, none⟩) z1).trans c1
              have hbo : Below w1.heap.size w1 w9 := by first | exact (hbo.drew).trans (hb9.mono hbo.size) | exact hbo.trans (hb9.mono hbo.size)
              have hB : Below w.heap.size w w9 := by first | exact (hB.drew).trans (hb9.mono hB.size) | exact hB.trans (hb9.mono hB.size)
              have z0 := Nat.lt_of_lt_of_le z0 hb9.size
              have z1 := Nat.lt_of_lt_of_le z1 hb9.size))
          all_goals
            go_wp2_with fail
            go_roundw
            case rel => exact ⟨n + 1, by omega, by go_num, by rw [HSn.out], ⟨hB, p0, p1, p2, p3, p4, p5⟩, hbo⟩
            case measure => simp [intOf]; omega
      · have hm' : (y0 == m) = false := by simpa using hm
        have HSn := Lib.hid (HSn.out.trans (by rw [if_neg hm]))
        clear hm
        go_wp2_with fail
        go_region_held3 (fun w' => w'.cell? ⟨w.heap.size, 0, none⟩ = some (.int .i64 s.O) ∧ w'.cell? ⟨w.heap.size, 1, none⟩ = some (.int .i64 s.C) ∧ w'.cell? ⟨w.heap.size, 2, none⟩ = some (.slice s.aH s.H.length s.cH) ∧ w'.cell? ⟨w.heap.size, 3, none⟩ = some (.int .i64 s.M) ∧ w'.cell? ⟨w.heap.size, 4, none⟩ = some (.slice s.aS s.S.length s.cS) ∧ w'.cell? ⟨w.heap.size, 5, none⟩ = some (.slice s.aJ s.J.length s.cJ) ∧ w'.cell? ⟨blk, off + n * 2, none⟩ = some (.int .i64 g1) ∧ w'.cell? ⟨blk, off + n * 2 + 1, none⟩ = some (.int .i64 g2)) (go_keep)
          ((go_at_call 83
            refine (HAn.out _ (by first | exact hB.drew | exact hB | exact hB.drew.drew | exact below_drewN hB _ | exact below_drewN hB.drew _)).mono ?_
            rintro E w9 ⟨rfl, hb9⟩
            have p0 := (hb9.cell (p := ⟨w.heap.size, 0, none⟩) z0).trans p0
            have p1 := (hb9.cell (p := ⟨w.heap.size, 1, none⟩) z0).trans p1
            have p2 := (hb9.cell (p := ⟨w.heap.size, 2, none⟩) z0).trans p2
            have p3 := (hb9.cell (p := ⟨w.heap.size, 3, none⟩) z0).trans p3
            have p4 := (hb9.cell (p := ⟨w.heap.size, 4, none⟩) z0).trans p4
            have p5 := (hb9.cell (p := ⟨w.heap.size, 5, none⟩) z0).trans p5
            have c0 := (hb9.cell (p := ⟨blk, off + n * 2, none⟩) z1).trans c0
            have c1 := (hb9.cell (p := ⟨blk, off + n * 2 + 1, none⟩) z1).trans c1
            have hbo : Below w1.heap.size w1 w9 := by first | exact (hbo.drew).trans (hb9.mono hbo.size) | exact hbo.trans (hb9.mono hbo.size)
            have hB : Below w.heap.size w w9 := by first | exact (hB.drew).trans (hb9.mono hB.size) | exact hB.trans (hb9.mono hB.size)
            have z0 := Nat.lt_of_lt_of_le z0 hb9.size
            have z1 := Nat.lt_of_lt_of_le z1 hb9.size))
        all_goals
          go_wp2_with fail
          go_roundw
          case rel => exact ⟨n + 1, by omega, by go_num, by rw [HSn.out]; simp, ⟨hB, p0, p1, p2, p3, p4, p5⟩, hbo⟩
          case measure => simp [intOf]; omega
    · obtain rfl : n = L.length := by omega
      have ht := HTot.out
      rw [ht]
      clear HC HLa HAt HSt HSB HTot hlt ht
      generalize hld : ldV s m = v at *
      by_cases hv : v = 0
      · have HR := Lib.hid (HZ.out (by first | exact hv | (rw [hld]; exact hv)))
        have hv' : (v == 0) = true := by simpa using hv
        clear HZ HAf hld hv
        go_wp2_with fail
        go_ret
        rw [HR.out]
        exact ⟨rfl, hb⟩
      · have hv' : (v == 0) = false := by simpa using hv
        clear HZ hv hld
        go_wp2_with fail
        refine (HAf.out _ hb).mono ?_
        rintro e w9 ⟨rfl, hb9⟩
        go_wp2_with fail
        go_ret
        exact ⟨rfl, hb.trans (hb9.mono hb.size)⟩
end Go.Proofs.Ytmdifgkalooaoaa
