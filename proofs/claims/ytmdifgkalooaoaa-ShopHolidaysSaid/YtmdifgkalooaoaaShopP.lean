/-
  The walk of chain of package shop. By an AI agent.
-/
import Derived.Test.YtmdifgkalooaoaaShopN
import Derived.Deep.RegionHeld3
namespace Go.Proofs.Ytmdifgkalooaoaa
set_option linter.unusedVariables false
set_option linter.unusedSimpArgs false
open Go.RowKit

theorem nextV_bd {s : Sh} {t m : Int} (h : ShOk s) (t0 : 0 ≤ t) (m1 : m ≤ s.C - s.O) : t ≤ nextV s.O s.C s.H t m ∧ nextV s.O s.C s.H t m ≤ t + 14500000 := by
  obtain ⟨x, hx, hb⟩ := next_exists h.1.1 h.1.2.1 h.1.2.2 m1 h.2.1.late t0
  rw [nextV_eq hx]
  exact ⟨hx.1, hb⟩
/-- When the first k steps of a job that has the shop for itself are done and dry. -/
noncomputable def dryK (O C : Int) (H : List Int) (l : List Stp) : Nat → Int
  | 0 => 0
  | k + 1 => nextV O C H (dryK O C H l k) (gs l k).2.1 + (gs l k).2.1 + (gs l k).2.2.2
/-- When the last of them ends. -/
noncomputable def endK (O C : Int) (H : List Int) (l : List Stp) : Nat → Int
  | 0 => 0
  | k + 1 => nextV O C H (dryK O C H l k) (gs l k).2.1 + (gs l k).2.1
noncomputable def chainV (s : Sh) (l : List Stp) : Int := endK s.O s.C s.H l l.length
theorem dryK_bd {s : Sh} {l : List Stp} (h : ShOk s) (hl : jobOk s.O s.C s.M l) : ∀ k, k ≤ l.length → 0 ≤ dryK s.O s.C s.H l k ∧ dryK s.O s.C s.H l k ≤ 14600000 * k ∧ 0 ≤ endK s.O s.C s.H l k ∧ endK s.O s.C s.H l k ≤ 14600000 * k
  | 0, _ => by simp [dryK, endK]
  | k + 1, hk => by
    have ih := dryK_bd h hl k (by omega)
    have hs := hl.2 k (by omega)
    have hb := nextV_bd h ih.1 hs.2.1.2
    obtain ⟨⟨o0, o1, o2⟩, _⟩ := h
    unfold stpOk at hs
    rw [dryK, endK]
    omega

set_option maxRecDepth 100000 in
set_option maxHeartbeats 4000000 in
theorem chain_sh (s : Sh) (aa : Option Addr) (l : List Stp) (ca : Nat) (w : World) (hI : ShS w s) (hV : ShOk s) (hL : StepsS w aa l) (hJ : jobOk s.O s.C s.M l) :
    Calls Try.prog 73 #[.agg #[.int .i64 s.O, .int .i64 s.C, .slice s.aH s.H.length s.cH, .int .i64 s.M, .slice s.aS s.S.length s.cS, .slice s.aJ s.J.length s.cJ], .agg #[.slice aa l.length ca]] w fun e w' => e = .returned (.int .i64 (chainV s l)) ∧ Below w.heap.size w w' := by
  have HN := Lib.hid (fun t m t0 t1 m0 m1 W (hW : Below w.heap.size w W) => next_sh s t m W (hI.below hW).1 hV.2.1 hV.1.1 hV.1.2.1 hV.1.2.2 t0 t1 m0 m1)
  have HD := Lib.hid (dryK_bd hV hJ)
  have HB0 : Hid (∀ t m, 0 ≤ t → m ≤ s.C - s.O → t ≤ nextV s.O s.C s.H t m ∧ nextV s.O s.C s.H t m ≤ t + 14500000) := Lib.hid fun t m t0 m1 => nextV_bd hV t0 m1
  have HJ : Hid (∀ k, k < l.length → (1 ≤ (gs l k).2.1 ∧ (gs l k).2.1 ≤ s.C - s.O) ∧ 0 ≤ (gs l k).2.2.2 ∧ (gs l k).2.2.2 ≤ 10000) := Lib.hid fun k hk => ⟨(hJ.2 k hk).2.1, (hJ.2 k hk).2.2.2⟩
  have h8 := hJ.1
  obtain ⟨⟨o0, o1, o2⟩, _⟩ := hV
  obtain ⟨hln, hbd, blk, off, hadr, hc⟩ := hL
  have HC := Lib.hid hc
  have HL : Hid (0 < l.length → aa = some ⟨blk, off, none⟩) := Lib.hid fun h => hadr (fun e => by rw [e] at h; simp at h)
  have hB := ShBox.start w s 25
  unfold chainV
  clear hI hJ hbd hadr hc
  go_enter Try.func73, Try.ntmps73
  go_wp2_with fail
  obtain ⟨wB, hwB⟩ : ∃ wB, (w.alloc (.cells #[.int .i64 s.O, .int .i64 s.C, .slice s.aH s.H.length s.cH, .int .i64 s.M, .slice s.aS s.S.length s.cS, .slice s.aJ s.J.length s.cJ] 25)).alloc (.cells #[.slice aa l.length ca] 62) = wB := ⟨_, rfl⟩
  have hB : ShBox w wB s := by rw [← hwB]; exact hB.on ((Below.refl _ _).alloc (Nat.le_refl _) _)
  rw [hwB]
  clear hwB
  go_loopw [5, 6, 12] (fun x y i wr => ∃ k : Nat, k ≤ l.length ∧ i = .int .i64 k ∧ x = .int .i64 (endK s.O s.C s.H l k) ∧ y = .int .i64 (dryK s.O s.C s.H l k) ∧ ShBox w wr s) (fun _ _ i _ => l.length - (intOf i).toNat)
  case atStart => exact ⟨0, Nat.zero_le _, rfl, rfl, rfl, hB⟩
  case round =>
    clear hB
    obtain ⟨k, hk, rfl, rfl, rfl, hB1⟩ := hrel
    have HB := Lib.hid hB1
    obtain ⟨hb, p0, p1, p2, p3, p4, p5⟩ := hB1
    by_cases hlt : k < l.length
    · obtain rfl := HL.out (by omega)
      obtain ⟨c0, c1, c2, c3⟩ := HC.out k hlt
      have c0 := cell_below c0 hb
      have c1 := cell_below c1 hb
      have c2 := cell_below c2 hb
      have c3 := cell_below c3 hb
      obtain ⟨⟨m0, m1⟩, d0, d1⟩ := HJ.out k hlt
      obtain ⟨t0, t1, e0, e1⟩ := HD.out k hk
      obtain ⟨n0, n1⟩ := HB0.out _ _ t0 m1
      have HS : Hid (endK s.O s.C s.H l (k + 1) = nextV s.O s.C s.H (dryK s.O s.C s.H l k) (gs l k).2.1 + (gs l k).2.1 ∧ dryK s.O s.C s.H l (k + 1) = nextV s.O s.C s.H (dryK s.O s.C s.H l k) (gs l k).2.1 + (gs l k).2.1 + (gs l k).2.2.2) := Lib.hid ⟨rfl, rfl⟩
      have hk8 : k ≤ 8 := by omega
      have HNk := Lib.hid (fun W hW => HN.out (dryK s.O s.C s.H l k) (gs l k).2.1 t0 (by omega) (by omega) m1 W hW)
      clear HC HL HJ HD HB0 HN
      generalize nextV s.O s.C s.H (dryK s.O s.C s.H l k) (gs l k).2.1 = v at *
      generalize dryK s.O s.C s.H l k = t at *
      generalize endK s.O s.C s.H l k = en at *
      generalize (gs l k).1 = x0 at *
      generalize (gs l k).2.1 = x1 at *
      generalize (gs l k).2.2.1 = x2 at *
      generalize (gs l k).2.2.2 = x3 at *
      have n3 : (k : Int) < l.length := by omega
      go_wp2_with fail
      obtain ⟨wD, hwD⟩ : ∃ wD, wr.alloc (.cells #[.int .i64 x0, .int .i64 x1, .int .i64 x2, .int .i64 x3] 64) = wD := ⟨_, rfl⟩
      have hBD : ShBox w wD s := by rw [← hwD]; exact HB.out.on ((Below.refl _ _).alloc (Nat.le_refl _) _)
      have q1 : wD.cell? ⟨wr.heap.size, 1, none⟩ = some (.int .i64 x1) := by rw [← hwD]; simp [go_sem]
      have q3 : wD.cell? ⟨wr.heap.size, 3, none⟩ = some (.int .i64 x3) := by rw [← hwD]; simp [go_sem]
      rw [hwD]
      clear hwD HB hb p0 p1 p2 p3 p4 p5 c0 c1 c2 c3
      obtain ⟨hB, p0, p1, p2, p3, p4, p5⟩ := hBD
      have z0 := block_lt p0
      have z1 := block_lt q1
      have ws1 : IntKind.i64.wrap (v + x1) = v + x1 := IntWalk.i64_in _ (by omega)
      go_region_held3 (fun w' => w'.cell? ⟨w.heap.size, 0, none⟩ = some (.int .i64 s.O) ∧ w'.cell? ⟨w.heap.size, 1, none⟩ = some (.int .i64 s.C) ∧ w'.cell? ⟨w.heap.size, 2, none⟩ = some (.slice s.aH s.H.length s.cH) ∧ w'.cell? ⟨w.heap.size, 3, none⟩ = some (.int .i64 s.M) ∧ w'.cell? ⟨w.heap.size, 4, none⟩ = some (.slice s.aS s.S.length s.cS) ∧ w'.cell? ⟨w.heap.size, 5, none⟩ = some (.slice s.aJ s.J.length s.cJ) ∧ w'.cell? ⟨wr.heap.size, 1, none⟩ = some (.int .i64 x1) ∧ w'.cell? ⟨wr.heap.size, 3, none⟩ = some (.int .i64 x3)) (go_keep)
        ((go_at_call 54
          refine (HNk.out _ (by first | exact hB.drew | exact hB | exact hB.drew.drew | exact below_drewN hB _ | exact below_drewN hB.drew _)).mono ?_
          rintro E w9 ⟨rfl, hb9⟩
          have p0 := (hb9.cell (p := ⟨w.heap.size, 0, none⟩) z0).trans p0
          have p1 := (hb9.cell (p := ⟨w.heap.size, 1, none⟩) z0).trans p1
          have p2 := (hb9.cell (p := ⟨w.heap.size, 2, none⟩) z0).trans p2
          have p3 := (hb9.cell (p := ⟨w.heap.size, 3, none⟩) z0).trans p3
          have p4 := (hb9.cell (p := ⟨w.heap.size, 4, none⟩) z0).trans p4
          have p5 := (hb9.cell (p := ⟨w.heap.size, 5, none⟩) z0).trans p5
          have q1 := (hb9.cell (p := ⟨wr.heap.size, 1, none⟩) z1).trans q1
          have q3 := (hb9.cell (p := ⟨wr.heap.size, 3, none⟩) z1).trans q3
          have hB : Below w.heap.size w w9 := by first | exact (hB.drew).trans (hb9.mono hB.size) | exact hB.trans (hb9.mono hB.size)
          have z0 := Nat.lt_of_lt_of_le z0 hb9.size
          have z1 := Nat.lt_of_lt_of_le z1 hb9.size))
      all_goals
        go_wp2_with fail
        go_roundw
        case rel => exact ⟨k + 1, by omega, by go_num, by rw [HS.out.1], by rw [HS.out.2], hB, p0, p1, p2, p3, p4, p5⟩
        case measure => simp [intOf]; omega
    · obtain rfl : k = l.length := by omega
      clear HC HL HJ HD HB0 HN hlt
      go_wp2_with fail
      go_ret
      exact ⟨rfl, hb⟩
end Go.Proofs.Ytmdifgkalooaoaa
