/-
  The walks of the reference's Worked and After. By an AI agent.; The walks of Chain of both. By an AI agent.; The walks of load and Load of package shop. By an AI agent.; The walk of the reference's list of all steps. By an AI agent.
-/
import Derived.Test.YtgphkfonjfdifaaMgShopBounds3
import Derived.Deep.RegionHeld3
import Derived.Deep.AppendLies

namespace Go.Proofs.Ytgphkfonjfdifaa
set_option linter.unusedVariables false
set_option linter.unusedSimpArgs false
open Go.RowKit

end Go.Proofs.Ytgphkfonjfdifaa

namespace Go.Proofs.Ytgphkfonjfdifaa
set_option linter.unusedVariables false
set_option linter.unusedSimpArgs false
open Go.RowKit

set_option maxRecDepth 100000 in
set_option maxHeartbeats 4000000 in
theorem chain_ok (s : Sh) (j : Nat) (w : World) (hI : ShS w s) (hV : ShOk s) (hj : j < s.J.length) :
    Calls Try.prog 28 #[.agg #[.int .i64 s.O, .int .i64 s.C, .slice s.aH s.H.length s.cH, .int .i64 s.M, .slice s.aS s.S.length s.cS, .slice s.aJ s.J.length s.cJ], .int .i64 j] w fun e w' => e = .returned (.tuple #[.int .i64 (chainV s (gj s.J j)), .int .i64 0]) ∧ Below w.heap.size w w' := by
  have HV := Lib.hid (fun W (hW : Below w.heap.size w W) => Valid_sh s W (hI.below hW))
  obtain ⟨hlJ, blk, off, ad, cp, hadr, hc⟩ := hI.2.2
  have HK := Lib.hid (fun W (hW : Below w.heap.size w W) => chain_sh s (ad j) (gj s.J j) (cp j) W (hI.below hW) hV ((hc j hj).2.1.below hW) (hV.2.2.2.2 j hj))
  have c0 := (hc j hj).1
  have HA := Lib.hid (hadr (fun e => by rw [e] at hj; simp at hj))
  have hB := ShBox.start w s 25
  have hf := shB_t hV
  rw [hf] at HV
  have h12 := hV.2.2.2.1
  have HB1 := Lib.hid (btw_t (show (0 : Int) ≤ j by omega) (show (j : Int) ≤ s.J.length - 1 by omega))
  have hj0 : (j : Int) < s.J.length := by omega
  have ws : IntKind.i64.wrap ((s.J.length : Int) - 1) = s.J.length - 1 := IntWalk.i64_in _ (by omega)
  clear hf hI hV hadr hc
  generalize chainV s (gj s.J j) = R at *
  generalize ad j = a1 at *
  generalize (gj s.J j).length = n1 at *
  generalize cp j = c1 at *
  go_enter Try.func28, Try.ntmps28
  go_wp2_with fail
  obtain ⟨wB, hwB⟩ : ∃ wB, w.alloc (.cells #[.int .i64 s.O, .int .i64 s.C, .slice s.aH s.H.length s.cH, .int .i64 s.M, .slice s.aS s.S.length s.cS, .slice s.aJ s.J.length s.cJ] 25) = wB := ⟨_, rfl⟩
  rw [hwB] at hB ⊢
  clear hwB
  refine (HV.out _ hB.1).mono ?_
  rintro e w1 ⟨rfl, hb1⟩
  obtain ⟨hb, p0, p1, p2, p3, p4, p5⟩ := hB.on hb1
  clear hb1 hB HV
  go_wp2_with (go_at_call 53; refine (sbt_any _ _ _ _).mono ?_; rintro e w' ⟨rfl, rfl⟩; rw [HB1.out])
  have c0 := cell_below c0 hb
  have z0 := block_lt p0
  have z1 := block_lt c0
  rw [HA.out] at p5 HK
  have hB := hb
  clear hb
  go_region_held3 (fun w' => w'.cell? ⟨w.heap.size, 0, none⟩ = some (.int .i64 s.O) ∧ w'.cell? ⟨w.heap.size, 1, none⟩ = some (.int .i64 s.C) ∧ w'.cell? ⟨w.heap.size, 2, none⟩ = some (.slice s.aH s.H.length s.cH) ∧ w'.cell? ⟨w.heap.size, 3, none⟩ = some (.int .i64 s.M) ∧ w'.cell? ⟨w.heap.size, 4, none⟩ = some (.slice s.aS s.S.length s.cS) ∧ w'.cell? ⟨w.heap.size, 5, none⟩ = some (.slice (some ⟨blk, off, none⟩) s.J.length s.cJ) ∧ w'.cell? ⟨blk, off + j, none⟩ = some (.slice a1 n1 c1)) (go_keep)
    ((go_at_call 62
      refine (HK.out _ (by first | exact hB.drew | exact hB | exact hB.drew.drew | exact below_drewN hB _ | exact below_drewN hB.drew _)).mono ?_
      rintro E w9 ⟨rfl, hb9⟩
      have p0 := (hb9.cell (p := ⟨w.heap.size, 0, none⟩) z0).trans p0
      have p1 := (hb9.cell (p := ⟨w.heap.size, 1, none⟩) z0).trans p1
      have p2 := (hb9.cell (p := ⟨w.heap.size, 2, none⟩) z0).trans p2
      have p3 := (hb9.cell (p := ⟨w.heap.size, 3, none⟩) z0).trans p3
      have p4 := (hb9.cell (p := ⟨w.heap.size, 4, none⟩) z0).trans p4
      have p5 := (hb9.cell (p := ⟨w.heap.size, 5, none⟩) z0).trans p5
      have c0 := (hb9.cell (p := ⟨blk, off + j, none⟩) z1).trans c0
      have hB : Below w.heap.size w w9 := by first | exact (hB.drew).trans (hb9.mono hB.size) | exact hB.trans (hb9.mono hB.size)
      have z0 := Nat.lt_of_lt_of_le z0 hb9.size
      have z1 := Nat.lt_of_lt_of_le z1 hb9.size))
  all_goals
    go_wp2_with fail
    go_returns
    exact ⟨rfl, hB⟩
end Go.Proofs.Ytgphkfonjfdifaa

namespace Go.Proofs.Ytgphkfonjfdifaa
set_option linter.unusedVariables false
set_option linter.unusedSimpArgs false
open Go.RowKit

/-- The minutes of the first k steps of a job that are on a machine. -/
def ldK (l : List Stp) (m : Int) : Nat → Int
  | 0 => 0
  | k + 1 => ldK l m k + if (gs l k).1 = m then (gs l k).2.1 else 0
/-- The minutes of the first i jobs on a machine. -/
def ldJ (J : List (List Stp)) (m : Int) : Nat → Int
  | 0 => 0
  | i + 1 => ldJ J m i + ldK (gj J i) m (gj J i).length
def ldV (s : Sh) (m : Int) : Int := ldJ s.J m s.J.length
noncomputable def loadV (s : Sh) (m : Int) : Int := aftV s.O s.C s.H 0 (ldV s m)
theorem ldK_bd {s : Sh} (h : ShOk s) {l : List Stp} (hl : jobOk s.O s.C s.M l) (m : Int) : ∀ k, k ≤ l.length → 0 ≤ ldK l m k ∧ ldK l m k ≤ 1440 * k
  | 0, _ => by simp [ldK]
  | k + 1, hk => by
    have ih := ldK_bd h hl m k (by omega)
    have hs := (hl.2 k (by omega)).2.1
    obtain ⟨⟨o0, o1, o2⟩, _⟩ := h
    rw [ldK]
    split <;> omega
theorem ldJ_bd {s : Sh} (h : ShOk s) (m : Int) : ∀ i, i ≤ s.J.length → 0 ≤ ldJ s.J m i ∧ ldJ s.J m i ≤ 11520 * i
  | 0, _ => by simp [ldJ]
  | i + 1, hi => by
    have ih := ldJ_bd h m i (by omega)
    have hj := h.2.2.2.2 i (by omega)
    have hb := ldK_bd h hj m _ (Nat.le_refl _)
    have := hj.1
    rw [ldJ]
    omega

set_option maxRecDepth 100000 in
set_option maxHeartbeats 4000000 in
theorem load_sh (s : Sh) (m : Int) (w : World) (hI : ShS w s) (hV : ShOk s) :
    Calls Try.prog 63 #[.agg #[.int .i64 s.O, .int .i64 s.C, .slice s.aH s.H.length s.cH, .int .i64 s.M, .slice s.aS s.S.length s.cS, .slice s.aJ s.J.length s.cJ], .int .i64 m] w fun e w' => e = .returned (.int .i64 (loadV s m)) ∧ Below w.heap.size w w' := by
  have h12 := hV.2.2.2.1
  have hlast := ldJ_bd hV m _ (Nat.le_refl _)
  have HA : Hid (∀ W, Below w.heap.size w W → Calls Try.prog 67 #[.agg #[.int .i64 s.O, .int .i64 s.C, .slice s.aH s.H.length s.cH, .int .i64 s.M, .slice s.aS s.S.length s.cS, .slice s.aJ s.J.length s.cJ], .int .i64 0, .int .i64 (ldJ s.J m s.J.length)] W fun e w' => e = .returned (.int .i64 (loadV s m)) ∧ Below W.heap.size W w') := Lib.hid fun W hW => by
    obtain ⟨n, hn⟩ : ∃ n : Nat, ldJ s.J m s.J.length = n := ⟨(ldJ s.J m s.J.length).toNat, by omega⟩
    unfold loadV ldV
    rw [hn]
    exact after_sh s 0 n W (hI.below hW).1 hV.2.1 hV.1.1 hV.1.2.1 hV.1.2.2 (by omega) (by omega) (by omega)
  have HJB := Lib.hid (ldJ_bd hV m)
  have HKB : Hid (∀ i, i < s.J.length → (gj s.J i).length ≤ 8 ∧ ∀ k, k ≤ (gj s.J i).length → 0 ≤ ldK (gj s.J i) m k ∧ ldK (gj s.J i) m k ≤ 1440 * k) := Lib.hid fun i hi => ⟨(hV.2.2.2.2 i hi).1, ldK_bd hV (hV.2.2.2.2 i hi) m⟩
  have HMB : Hid (∀ i, i < s.J.length → ∀ k, k < (gj s.J i).length → 1 ≤ (gs (gj s.J i) k).2.1 ∧ (gs (gj s.J i) k).2.1 ≤ 1440) := Lib.hid fun i hi k hk => by
    have := ((hV.2.2.2.2 i hi).2 k hk).2.1
    have := hV.1
    omega
  obtain ⟨hlJ, blk, off, ad, cp, hadr, hc⟩ := hI.2.2
  have HE : Hid (∀ k, k < s.J.length → w.cell? ⟨blk, off + k, none⟩ = some (.slice (ad k) (gj s.J k).length (cp k)) ∧ StepsS w (ad k) (gj s.J k)) := Lib.hid fun k hk => ⟨(hc k hk).1, (hc k hk).2.1⟩
  obtain ⟨aj, haj⟩ : ∃ aj, s.aJ = aj := ⟨_, rfl⟩
  have HLJ : Hid (0 < s.J.length → aj = some ⟨blk, off, none⟩) := Lib.hid fun h => haj ▸ hadr (fun e => by rw [e] at h; simp at h)
  have hB := ShBox.start w s 25
  rw [haj] at HA hB
  clear hI hV hadr hc
  go_enter Try.func63, Try.ntmps63
  go_wp2_with fail
  obtain ⟨wB, hwB⟩ : ∃ wB, w.alloc (.cells #[.int .i64 s.O, .int .i64 s.C, .slice s.aH s.H.length s.cH, .int .i64 s.M, .slice s.aS s.S.length s.cS, .slice aj s.J.length s.cJ] 25) = wB := ⟨_, rfl⟩
  rw [hwB] at hB ⊢
  clear hwB
  have HB0 := Lib.hid hB
  clear hB
  go_loopw [5, 13] (fun u i wr => ∃ k : Nat, k ≤ s.J.length ∧ i = .int .i64 k ∧ u = .int .i64 (ldJ s.J m k) ∧ ShBox w wr s) (fun _ i _ => s.J.length - (intOf i).toNat)
  case atStart => exact ⟨0, Nat.zero_le _, rfl, rfl, HB0.out⟩
  case round =>
    clear HB0
    obtain ⟨k, hk, rfl, rfl, hB1⟩ := hrel
    have HB := Lib.hid hB1
    obtain ⟨hb, p0, p1, p2, p3, p4, p5⟩ := hB1
    by_cases hlt : k < s.J.length
    · obtain rfl := HLJ.out (by omega)
      obtain ⟨c0, hI1⟩ := HE.out k hlt
      have c0 := cell_below c0 hb
      obtain ⟨hln, hbd, b1, f1, hadr1, hc1⟩ := hI1.below hb
      have n9 : (k : Int) < s.J.length := by omega
      obtain ⟨h8, hkb⟩ := HKB.out k hlt
      have HKk := Lib.hid hkb
      have HMk := Lib.hid (HMB.out k hlt)
      have hjb := HJB.out k hk
      have HNx : Hid (ldJ s.J m (k + 1) = ldJ s.J m k + ldK (gj s.J k) m (gj s.J k).length) := Lib.hid rfl
      have HC1 := Lib.hid hc1
      have HL1 : Hid (0 < (gj s.J k).length → ad k = some ⟨b1, f1, none⟩) := Lib.hid fun h => hadr1 (fun e => by rw [e] at h; simp at h)
      clear HE HLJ HJB HKB HMB hbd hc1 hadr1 hI1 hkb
      generalize gj s.J k = l at *
      generalize ad k = al at *
      generalize cp k = cl at *
      generalize ldJ s.J m k = mj at *
      go_wp2_with fail
      obtain ⟨wo, hwo⟩ : ∃ wo, wr.alloc (.cells #[.slice al l.length cl] 55) = wo := ⟨_, rfl⟩
      have hbo : Below wr.heap.size wr wo := by rw [← hwo]; exact (Below.refl _ _).alloc (Nat.le_refl _) _
      have HB2 := Lib.hid (HB.out.on hbo)
      rw [hwo]
      have HC2 : Hid (∀ i, i < l.length → wo.cell? ⟨b1, f1 + i * 4, none⟩ = some (.int .i64 (gs l i).1) ∧ wo.cell? ⟨b1, f1 + i * 4 + 1, none⟩ = some (.int .i64 (gs l i).2.1) ∧ wo.cell? ⟨b1, f1 + i * 4 + 2, none⟩ = some (.int .i64 (gs l i).2.2.1) ∧ wo.cell? ⟨b1, f1 + i * 4 + 3, none⟩ = some (.int .i64 (gs l i).2.2.2)) := Lib.hid fun i hi => by
        obtain ⟨x0, x1, x2, x3⟩ := HC1.out i hi
        exact ⟨cell_below x0 hbo, cell_below x1 hbo, cell_below x2 hbo, cell_below x3 hbo⟩
      clear hwo hbo HB hb p0 p1 p2 p3 p4 p5 c0 HC1
      go_loopw [5, 20] (fun u i wr => ∃ n : Nat, n ≤ l.length ∧ i = .int .i64 n ∧ u = .int .i64 (mj + ldK l m n) ∧ ShBox w wr s ∧ Below wo.heap.size wo wr) (fun _ i _ => l.length - (intOf i).toNat)
      case atStart => exact ⟨0, Nat.zero_le _, rfl, by simp [ldK], HB2.out, Below.refl _ _⟩
      case round =>
        clear HB2
        obtain ⟨n, hn, rfl, rfl, hB1, hbo⟩ := hrel
        have HB := Lib.hid hB1
        obtain ⟨hb, p0, p1, p2, p3, p4, p5⟩ := hB1
        obtain ⟨k0, k1⟩ := HKk.out n hn
        by_cases hlt1 : n < l.length
        · obtain rfl := HL1.out (by omega)
          obtain ⟨c0, c1, c2, c3⟩ := HC2.out n hlt1
          have c0 := cell_below c0 hbo
          have c1 := cell_below c1 hbo
          have c2 := cell_below c2 hbo
          have c3 := cell_below c3 hbo
          have n10 : (n : Int) < l.length := by omega
          obtain ⟨m0, m1⟩ := HMk.out n hlt1
          have HS : Hid (ldK l m (n + 1) = ldK l m n + if (gs l n).1 = m then (gs l n).2.1 else 0) := Lib.hid rfl
          have hn8 : n ≤ 8 := by omega
          clear HC2 HL1 HKk HMk HNx
          generalize ldK l m n = v at *
          generalize (gs l n).1 = x0 at *
          generalize (gs l n).2.1 = x1 at *
          generalize (gs l n).2.2.1 = x2 at *
          generalize (gs l n).2.2.2 = x3 at *
          by_cases hm : x0 = m
          · have hm' : (x0 == m) = true := by simpa using hm
            have HS : Hid (ldK l m (n + 1) = v + x1) := Lib.hid (by rw [HS.out, if_pos hm])
            clear hm
            go_wp2_with fail
            go_roundw
            case rel => exact ⟨n + 1, by omega, by go_num, by rw [HS.out]; go_num, HB.out.on ((Below.refl _ _).alloc (Nat.le_refl _) _), hbo.alloc hbo.size _⟩
            case measure => simp [intOf]; omega
          · have hm' : (x0 == m) = false := by simpa using hm
            have HS : Hid (ldK l m (n + 1) = v) := Lib.hid (by rw [HS.out, if_neg hm]; omega)
            clear hm
            go_wp2_with fail
            go_roundw
            case rel => exact ⟨n + 1, by omega, by go_num, by rw [HS.out], HB.out.on ((Below.refl _ _).alloc (Nat.le_refl _) _), hbo.alloc hbo.size _⟩
            case measure => simp [intOf]; omega
        · obtain rfl : n = l.length := by omega
          clear HC2 HL1 HKk HMk hlt1
          go_wp2_with fail
          go_roundw
          case rel => exact ⟨k + 1, by omega, by go_num, by rw [HNx.out], HB.out⟩
          case measure => simp [intOf]; omega
    · obtain rfl : k = s.J.length := by omega
      clear HE HLJ HJB HKB HMB hlt
      go_wp2_with fail
      refine (HA.out _ hb).mono ?_
      rintro e w1 ⟨rfl, hb1⟩
      go_wp2_with fail
      go_ret
      exact ⟨rfl, hb.trans (hb1.mono hb.size)⟩

set_option maxRecDepth 100000 in
set_option maxHeartbeats 1000000 in
theorem load_ok (s : Sh) (m : Int) (w : World) (hI : ShS w s) (hV : ShOk s) (m0 : 0 ≤ m) (m1 : m < s.M) :
    Calls Try.prog 29 #[.agg #[.int .i64 s.O, .int .i64 s.C, .slice s.aH s.H.length s.cH, .int .i64 s.M, .slice s.aS s.S.length s.cS, .slice s.aJ s.J.length s.cJ], .int .i64 m] w fun e w' => e = .returned (.tuple #[.int .i64 (loadV s m), .int .i64 0]) ∧ Below w.heap.size w w' := by
  have HV := Lib.hid (fun W (hW : Below w.heap.size w W) => Valid_sh s W (hI.below hW))
  have HN := Lib.hid (fun W (hW : Below w.heap.size w W) => load_sh s m W (hI.below hW) hV)
  have hB := ShBox.start w s 25
  have hf := shB_t hV
  rw [hf] at HV
  have hM := hV.2.2.1.1
  have HB1 := Lib.hid (btw_t m0 (show m ≤ s.M - 1 by omega))
  clear hf hI hV
  generalize loadV s m = R at *
  go_enter Try.func29, Try.ntmps29
  go_wp2_with fail
  obtain ⟨wB, hwB⟩ : ∃ wB, w.alloc (.cells #[.int .i64 s.O, .int .i64 s.C, .slice s.aH s.H.length s.cH, .int .i64 s.M, .slice s.aS s.S.length s.cS, .slice s.aJ s.J.length s.cJ] 25) = wB := ⟨_, rfl⟩
  rw [hwB] at hB ⊢
  clear hwB
  refine (HV.out _ hB.1).mono ?_
  rintro e w1 ⟨rfl, hb1⟩
  obtain ⟨hb, p0, p1, p2, p3, p4, p5⟩ := hB.on hb1
  clear hb1 hB HV
  go_wp2_with (go_at_call 53; refine (sbt_any _ _ _ _).mono ?_; rintro e w' ⟨rfl, rfl⟩; rw [HB1.out])
  refine (HN.out _ hb).mono ?_
  rintro e w2 ⟨rfl, hb2⟩
  go_wp2_with fail
  go_returns
  exact ⟨rfl, hb.trans (hb2.mono hb.size)⟩
end Go.Proofs.Ytgphkfonjfdifaa

namespace Go.Proofs.Ytgphkfonjfdifaa
set_option linter.unusedVariables false
set_option linter.unusedSimpArgs false
open Go.RowKit

theorem pairInfo : (Try.prog.info? 76).map (fun i => (i.zero, i.size, i.bytes)) = some (some (.agg #[.int .i64 0, .int .i64 0]), 2, 16) := by kernel_rfl
def clS (s : List (Int × Int)) : List Value := s.flatMap fun p => [.int .i64 p.1, .int .i64 p.2]
theorem clS_app (s : List (Int × Int)) (p : Int × Int) : clS (s ++ [p]) = clS s ++ [.int .i64 p.1, .int .i64 p.2] := by simp [clS]
theorem clS_0 : ∀ (s : List (Int × Int)) (i : Nat), i < s.length → (clS s)[i * 2]? = some (.int .i64 (gp s i).1)
  | [], i, hi => by simp at hi
  | p :: s, 0, hi => by simp [clS, gp]
  | p :: s, i + 1, hi => by
    have ih := clS_0 s i (by simpa using hi)
    unfold clS gp at *
    rw [List.flatMap_cons, List.getElem?_append_right (by simp; omega), show (i + 1) * 2 - [Value.int .i64 p.1, .int .i64 p.2].length = i * 2 from by simp; omega, ih]
    rfl
theorem clS_1 : ∀ (s : List (Int × Int)) (i : Nat), i < s.length → (clS s)[i * 2 + 1]? = some (.int .i64 (gp s i).2)
  | [], i, hi => by simp at hi
  | p :: s, 0, hi => by simp [clS, gp]
  | p :: s, i + 1, hi => by
    have ih := clS_1 s i (by simpa using hi)
    unfold clS gp at *
    rw [List.flatMap_cons, List.getElem?_append_right (by simp; omega), show (i + 1) * 2 + 1 - [Value.int .i64 p.1, .int .i64 p.2].length = i * 2 + 1 from by simp; omega, ih]
    rfl
theorem pairs_own {w : World} {base c : Nat} {a : Option Addr} {s : List (Int × Int)} (h : w.ownsRow base 76 2 (.slice a s.length c) s.length (clS s)) (hn : s.length ≤ 9223372036854775807) (hf : ∀ j, j < s.length → I64 (gp s j).1 ∧ I64 (gp s j).2) : PairsS w a s := by
  refine ⟨hn, hf, ?_⟩
  rcases h.2 with ⟨h1, h2⟩ | ⟨g2, c2, cur, h1, _⟩
  · exact ⟨0, 0, (fun hne => absurd (List.eq_nil_of_length_eq_zero h2) hne), fun i hi => by omega⟩
  · obtain ⟨rfl, rfl⟩ : a = some ⟨g2, 0, none⟩ ∧ c = c2 := by simpa using h1
    refine ⟨g2, 0, fun _ => rfl, fun i hi => ⟨?_, ?_⟩⟩
    · rw [Nat.zero_add, World.ownsRow.cellAt h (i * 2) (by omega)]; exact clS_0 s i hi
    · rw [Nat.zero_add, World.ownsRow.cellAt h (i * 2 + 1) (by omega)]; exact clS_1 s i hi

/-- The first n steps of a job, as pairs. -/
def rowP (i n : Nat) : List (Int × Int) := (List.range n).map fun k : Nat => ((i : Int), (k : Int))
/-- The steps of the first i jobs, as pairs. -/
def flI (J : List (List Stp)) : Nat → List (Int × Int)
  | 0 => []
  | i + 1 => flI J i ++ rowP i (gj J i).length
/-- The steps of the first i jobs, and the first k ones of the next. -/
def lpK (J : List (List Stp)) (i k : Nat) : List (Int × Int) := flI J i ++ rowP i k
def flP (J : List (List Stp)) : List (Int × Int) := flI J J.length
theorem rowP_len (i n : Nat) : (rowP i n).length = n := by simp [rowP]
theorem rowP_next (i n : Nat) : rowP i (n + 1) = rowP i n ++ [((i : Int), (n : Int))] := by simp [rowP, List.range_succ]
theorem lpK_zero (J : List (List Stp)) (i : Nat) : lpK J i 0 = flI J i := by simp [lpK, rowP]
theorem lpK_next (J : List (List Stp)) (i k : Nat) : lpK J i (k + 1) = lpK J i k ++ [((i : Int), (k : Int))] := by unfold lpK; rw [rowP_next, List.append_assoc]
theorem lpK_end (J : List (List Stp)) (i : Nat) : lpK J i (gj J i).length = flI J (i + 1) := rfl
theorem flI_len {s : Sh} (h : ShOk s) : ∀ i, i ≤ s.J.length → (flI s.J i).length ≤ 8 * i
  | 0, _ => by simp [flI]
  | i + 1, hi => by
    have ih := flI_len h i (by omega)
    have hj := (h.2.2.2.2 i (by omega)).1
    rw [flI, List.length_append, rowP_len]
    omega
/-- Each pair is a step. -/
theorem flI_at {J : List (List Stp)} : ∀ i, i ≤ J.length → ∀ p, p ∈ flI J i → ∃ a b : Nat, p = ((a : Int), (b : Int)) ∧ a < i ∧ b < (gj J a).length
  | 0, _, p, hp => by simp [flI] at hp
  | i + 1, hi, p, hp => by
    rw [flI, List.mem_append] at hp
    rcases hp with hp | hp
    · obtain ⟨a, b, h1, h2, h3⟩ := flI_at i (by omega) p hp
      exact ⟨a, b, h1, by omega, h3⟩
    · unfold rowP at hp
      obtain ⟨k, hk, rfl⟩ := List.mem_map.1 hp
      exact ⟨i, k, rfl, by omega, List.mem_range.1 hk⟩
theorem gp_mem {l : List (Int × Int)} {i : Nat} (h : i < l.length) : gp l i ∈ l := by
  unfold gp; rw [List.getD_eq_getElem?_getD, List.getElem?_eq_getElem h]; exact List.getElem_mem h
theorem flP_at {J : List (List Stp)} {n : Nat} (h : n < (flP J).length) : ∃ a b : Nat, gp (flP J) n = ((a : Int), (b : Int)) ∧ a < J.length ∧ b < (gj J a).length := flI_at _ (Nat.le_refl _) _ (gp_mem h)

set_option maxRecDepth 100000 in
set_option maxHeartbeats 4000000 in
theorem list_sh (s : Sh) (w : World) (hI : ShS w s) (hV : ShOk s) :
    Calls Try.prog 47 #[.agg #[.int .i64 s.O, .int .i64 s.C, .slice s.aH s.H.length s.cH, .int .i64 s.M, .slice s.aS s.S.length s.cS, .slice s.aJ s.J.length s.cJ]] w fun e w' => ∃ a c, e = .returned (.slice a (flP s.J).length c) ∧ PairsS w' a (flP s.J) ∧ Below w.heap.size w w' := by
  have h12 := hV.2.2.2.1
  have HLn : Hid (∀ i k, i < s.J.length → k ≤ (gj s.J i).length → (lpK s.J i k).length ≤ 200) := Lib.hid fun i k hi hk => by
    have := flI_len hV i (by omega)
    have := (hV.2.2.2.2 i hi).1
    unfold lpK
    rw [List.length_append, rowP_len]
    omega
  have HL8 : Hid (∀ i, i < s.J.length → (gj s.J i).length ≤ 8) := Lib.hid fun i hi => (hV.2.2.2.2 i hi).1
  have HNx := Lib.hid (lpK_next s.J)
  have HZ := Lib.hid (lpK_zero s.J)
  have HEn := Lib.hid (lpK_end s.J)
  have HRES : Hid (∀ W a c base, W.ownsRow base 76 2 (.slice a (flI s.J s.J.length).length c) (flI s.J s.J.length).length (clS (flI s.J s.J.length)) → PairsS W a (flI s.J s.J.length)) := Lib.hid fun W a c base h => pairs_own h (by have := flI_len hV _ (Nat.le_refl _); omega) (fun j hj => by
    obtain ⟨x, y, h1, h2, h3⟩ := flP_at (J := s.J) (n := j) hj
    have h8 := (hV.2.2.2.2 x h2).1
    have h1' : gp (flI s.J s.J.length) j = ((x : Int), (y : Int)) := h1
    rw [h1']
    unfold I64
    constructor
    · constructor <;> simp only <;> omega
    · constructor <;> simp only <;> omega)
  obtain ⟨hlJ, blk, off, ad, cp, hadr, hc⟩ := hI.2.2
  have HE : Hid (∀ k, k < s.J.length → w.cell? ⟨blk, off + k, none⟩ = some (.slice (ad k) (gj s.J k).length (cp k))) := Lib.hid fun k hk => (hc k hk).1
  have HLJ : Hid (0 < s.J.length → s.aJ = some ⟨blk, off, none⟩) := Lib.hid fun h => hadr (fun e => by rw [e] at h; simp at h)
  have hB := ShBox.start w s 25
  obtain ⟨n0, hi, hz0, hz1, hz2⟩ := info_parts pairInfo
  unfold flP
  clear hI hV hadr hc
  go_enter Try.func47, Try.ntmps47
  go_wp2_with fail
  obtain ⟨wo, hwo⟩ : ∃ wo, w.alloc (.cells #[.int .i64 s.O, .int .i64 s.C, .slice s.aH s.H.length s.cH, .int .i64 s.M, .slice s.aS s.S.length s.cS, .slice s.aJ s.J.length s.cJ] 25) = wo := ⟨_, rfl⟩
  rw [hwo] at hB ⊢
  clear hwo
  have HBo := Lib.hid hB
  clear hB
  go_loopw [3, 4] (fun v i wr => ∃ k : Nat, k ≤ s.J.length ∧ i = .int .i64 k ∧ (∃ a c, v = .slice a (flI s.J k).length c) ∧ Hid (wr.ownsRow wo.heap.size 76 2 v (flI s.J k).length (clS (flI s.J k))) ∧ Below wo.heap.size wo wr) (fun _ i _ => s.J.length - (intOf i).toNat)
  case atStart => exact ⟨0, Nat.zero_le _, rfl, ⟨none, 0, rfl⟩, Lib.hid ⟨rfl, .inl ⟨rfl, rfl⟩⟩, Below.refl _ _⟩
  case round =>
    obtain ⟨k, hk, rfl, ⟨ar, cr, rfl⟩, HRow, hbr⟩ := hrel
    have HB := Lib.hid (HBo.out.on hbr)
    obtain ⟨hb, p0, p1, p2, p3, p4, p5⟩ := HBo.out.on hbr
    have hbs := hbr.size
    by_cases hlt : k < s.J.length
    · have HA := Lib.hid (HLJ.out (by omega))
      have HEk := Lib.hid (HE.out k hlt)
      have h8 := HL8.out k hlt
      have n9 : (k : Int) < s.J.length := by omega
      have HLk := Lib.hid (HLn.out k)
      have HNk := Lib.hid (HNx.out k)
      have HEnk := Lib.hid (HEn.out k)
      have hz := HZ.out k
      rw [← hz] at HRow ⊢
      clear HE HLJ HL8 HRES HZ HNx HEn HLn hz
      go_wp2_with fail
      clear hb p0 p1 p2 p3 p4 p5 HB
      go_loopw [3, 5] (fun v i wr => ∃ n : Nat, n ≤ (gj s.J k).length ∧ i = .int .i64 n ∧ (∃ a c, v = .slice a (lpK s.J k n).length c) ∧ Hid (wr.ownsRow wo.heap.size 76 2 v (lpK s.J k n).length (clS (lpK s.J k n))) ∧ Below wo.heap.size wo wr) (fun _ i _ => (gj s.J k).length - (intOf i).toNat)
      case atStart => exact ⟨0, Nat.zero_le _, rfl, ⟨_, _, rfl⟩, HRow, hbr⟩
      case round =>
        clear HRow hbr hbs
        obtain ⟨n, hn, rfl, ⟨ar, cr, rfl⟩, HRow, hbr⟩ := hrel
        obtain ⟨hb, p0, p1, p2, p3, p4, p5⟩ := HBo.out.on hbr
        have hbs := hbr.size
        have c0 := cell_below HEk.out hb
        rw [HA.out] at p5
        have h200 := HLk.out n hlt hn
        by_cases hlt1 : n < (gj s.J k).length
        · have HNn := Lib.hid (HNk.out n)
          have HAP : Hid ((lpK s.J k n).length + 1 = (lpK s.J k (n + 1)).length ∧ clS (lpK s.J k n) ++ [.int .i64 k, .int .i64 n] = clS (lpK s.J k (n + 1))) := Lib.hid (by rw [HNn.out, clS_app, List.length_append]; exact ⟨rfl, rfl⟩)
          clear HNk HNn HEnk HLk HEk HA
          generalize (gj s.J k).length = l at *
          generalize ad k = al at *
          generalize cp k = cl at *
          generalize (lpK s.J k n).length = ln at *
          generalize clS (lpK s.J k n) = cs at *
          have n10 : (n : Int) < l := by omega
          have hown := Lib.hid (HRow.out.alloc (.cells #[.int .i64 k, .int .i64 n] 76))
          go_wp2_with (first | (at_builtin; go_loud (refine wpList_append_lies _ rfl _ _ 36 rfl wo.heap.size 76 n0 _ 2 16 Try.underlying36 hi hz0 hz1 hz2 rfl (by decide) (.slice ar ln cr) ln _ (by rfl) hown.out ⟨wr.heap.size, 0, none⟩ 1 1 [.int .i64 k, .int .i64 n] (by rfl) (by rfl) ?d1 ?d2 (by decide) ?d3 ?d4 ?d5 _ rfl ?_)))
          case d1 =>
            refine World.news_of_block (cs := #[.int .i64 k, .int .i64 n]) (t := 76) (fr := (0, 0)) ?_
            exact heap_alloc_new _ _
          case d2 => simp [Value.oneCell']
          case d3 => unfold maxLen; omega
          case d4 => omega
          case d5 => first | (simp; omega) | simp
          intro g6 c6 w6 hown6 hgrow6 hat6 hlt6
          have hb6 : Below wo.heap.size wo w6 := ((hbr.alloc hbs _).grown hgrow6 (by first | (simp; omega) | simp) (fun z hz => by
            rcases hown.out.2 with ⟨h, _⟩ | ⟨g2, c3, cur, h1, h2, _⟩
            · rw [h] at hz; simp [Value.ownBlock] at hz
            · rw [h1] at hz; simp [Value.ownBlock] at hz; omega))
          go_wp2_with fail
          go_roundw
          case rel => exact ⟨n + 1, by omega, by go_num, ⟨_, c6, by rw [← HAP.out.1]⟩, Lib.hid (by rw [← HAP.out.1, ← HAP.out.2]; exact hown6), hb6⟩
          case measure => simp [intOf]; omega
        · obtain rfl : n = (gj s.J k).length := by omega
          have he := HEnk.out
          rw [he] at HRow h200 ⊢
          clear HNk HEnk HLk HEk HA hlt1 he
          go_wp2_with fail
          go_roundw
          case rel => exact ⟨k + 1, by omega, by go_num, ⟨_, _, rfl⟩, HRow, hbr⟩
          case measure => simp [intOf]; omega
    · obtain rfl : k = s.J.length := by omega
      have HP := Lib.hid (HRES.out _ _ _ _ HRow.out)
      clear HE HLJ HL8 HRES HZ HNx HEn HLn hlt
      go_wp2_with fail
      go_ret
      exact ⟨_, _, rfl, HP.out, hb⟩
end Go.Proofs.Ytgphkfonjfdifaa
