/-
  The walks of load and Load of package shop. By an AI agent.
-/
import Derived.Test.YtmdifgkalooaoaaShopP
import Derived.Deep.RegionHeld3
namespace Go.Proofs.Ytmdifgkalooaoaa
set_option linter.unusedVariables false
set_option linter.unusedSimpArgs false
open Go.RowKit

/-- The minutes of the first k steps of a job that are on a machine. -/
def ldK (l : List Stp) (m : Int) : Nat → Int
  | 0 => 0
  | k + 1 => ldK l m k + if (gs l k).1 = m then (gs l k).2.1 else 0
/-- The minutes of the first i jobs on a machine. -/
def ldJ (J : List (List Stp)) (m : Int) : Nat → Int
  | 0 => 0
  | i + 1 => ldJ J m i + ldK (gj J i) m (gj J i).length
def ldV (s : Sh) (m : Int) : Int := ldJ s.J m s.J.length
noncomputable def loadV (s : Sh) (m : Int) : Int := aftV s.O s.C s.H 0 (ldV s m)
theorem ldK_bd {s : Sh} (h : ShOk s) {l : List Stp} (hl : jobOk s.O s.C s.M l) (m : Int) : ∀ k, k ≤ l.length → 0 ≤ ldK l m k ∧ ldK l m k ≤ 1440 * k
  | 0, _ => by simp [ldK]
  | k + 1, hk => by
    have ih := ldK_bd h hl m k (by omega)
    have hs := (hl.2 k (by omega)).2.1
    obtain ⟨⟨o0, o1, o2⟩, _⟩ := h
    rw [ldK]
    split <;> omega
theorem ldJ_bd {s : Sh} (h : ShOk s) (m : Int) : ∀ i, i ≤ s.J.length → 0 ≤ ldJ s.J m i ∧ ldJ s.J m i ≤ 11520 * i
  | 0, _ => by simp [ldJ]
  | i + 1, hi => by
    have ih := ldJ_bd h m i (by omega)
    have hj := h.2.2.2.2 i (by omega)
    have hb := ldK_bd h hj m _ (Nat.le_refl _)
    have := hj.1
    rw [ldJ]
    omega

set_option maxRecDepth 100000 in
set_option maxHeartbeats 4000000 in
theorem load_sh (s : Sh) (m : Int) (w : World) (hI : ShS w s) (hV : ShOk s) :
    Calls Try.prog 74 #[.agg #[.int .i64 s.O, .int .i64 s.C, .slice s.aH s.H.length s.cH, .int .i64 s.M, .slice s.aS s.S.length s.cS, .slice s.aJ s.J.length s.cJ], .int .i64 m] w fun e w' => e = .returned (.int .i64 (loadV s m)) ∧ Below w.heap.size w w' := by
  have h12 := hV.2.2.2.1
  have hlast := ldJ_bd hV m _ (Nat.le_refl _)
  have HA : Hid (∀ W, Below w.heap.size w W → Calls Try.prog 56 #[.agg #[.int .i64 s.O, .int .i64 s.C, .slice s.aH s.H.length s.cH, .int .i64 s.M, .slice s.aS s.S.length s.cS, .slice s.aJ s.J.length s.cJ], .int .i64 0, .int .i64 (ldJ s.J m s.J.length)] W fun e w' => e = .returned (.int .i64 (loadV s m)) ∧ Below W.heap.size W w') := Lib.hid fun W hW => by
    obtain ⟨n, hn⟩ : ∃ n : Nat, ldJ s.J m s.J.length = n := ⟨(ldJ s.J m s.J.length).toNat, by omega⟩
    unfold loadV ldV
    rw [hn]
    exact after_sh s 0 n W (hI.below hW).1 hV.2.1 hV.1.1 hV.1.2.1 hV.1.2.2 (by omega) (by omega) (by omega)
  have HJB := Lib.hid (ldJ_bd hV m)
  have HKB : Hid (∀ i, i < s.J.length → (gj s.J i).length ≤ 8 ∧ ∀ k, k ≤ (gj s.J i).length → 0 ≤ ldK (gj s.J i) m k ∧ ldK (gj s.J i) m k ≤ 1440 * k) := Lib.hid fun i hi => ⟨(hV.2.2.2.2 i hi).1, ldK_bd hV (hV.2.2.2.2 i hi) m⟩
  have HMB : Hid (∀ i, i < s.J.length → ∀ k, k < (gj s.J i).length → 1 ≤ (gs (gj s.J i) k).2.1 ∧ (gs (gj s.J i) k).2.1 ≤ 1440) := Lib.hid fun i hi k hk => by
    have := ((hV.2.2.2.2 i hi).2 k hk).2.1
    have := hV.1
    omega
  obtain ⟨hlJ, blk, off, ad, cp, hadr, hc⟩ := hI.2.2
  have HE : Hid (∀ k, k < s.J.length → w.cell? ⟨blk, off + k, none⟩ = some (.slice (ad k) (gj s.J k).length (cp k)) ∧ StepsS w (ad k) (gj s.J k)) := Lib.hid fun k hk => ⟨(hc k hk).1, (hc k hk).2.1⟩
  obtain ⟨aj, haj⟩ : ∃ aj, s.aJ = aj := ⟨_, rfl⟩
  have HLJ : Hid (0 < s.J.length → aj = some ⟨blk, off, none⟩) := Lib.hid fun h => haj ▸ hadr (fun e => by rw [e] at h; simp at h)
  have hB := ShBox.start w s 25
  rw [haj] at HA hB
  clear hI hV hadr hc
  go_enter Try.func74, Try.ntmps74
  go_wp2_with fail
  obtain ⟨wB, hwB⟩ : ∃ wB, w.alloc (.cells #[.int .i64 s.O, .int .i64 s.C, .slice s.aH s.H.length s.cH, .int .i64 s.M, .slice s.aS s.S.length s.cS, .slice aj s.J.length s.cJ] 25) = wB := ⟨_, rfl⟩
  rw [hwB] at hB ⊢
  clear hwB
  have HB0 := Lib.hid hB
  clear hB
  go_loopw [5, 13] (fun u i wr => ∃ k : Nat, k ≤ s.J.length ∧ i = .int .i64 k ∧ u = .int .i64 (ldJ s.J m k) ∧ ShBox w wr s) (fun _ i _ => s.J.length - (intOf i).toNat)
  case atStart => exact ⟨0, Nat.zero_le _, rfl, rfl, HB0.out⟩
  case round =>
    clear HB0
    obtain ⟨k, hk, rfl, rfl, hB1⟩ := hrel
    have HB := Lib.hid hB1
    obtain ⟨hb, p0, p1, p2, p3, p4, p5⟩ := hB1
    by_cases hlt : k < s.J.length
    · obtain rfl := HLJ.out (by omega)
      obtain ⟨c0, hI1⟩ := HE.out k hlt
      have c0 := cell_below c0 hb
      obtain ⟨hln, hbd, b1, f1, hadr1, hc1⟩ := hI1.below hb
      have n9 : (k : Int) < s.J.length := by omega
      obtain ⟨h8, hkb⟩ := HKB.out k hlt
      have HKk := Lib.hid hkb
      have HMk := Lib.hid (HMB.out k hlt)
      have hjb := HJB.out k hk
      have HNx : Hid (ldJ s.J m (k + 1) = ldJ s.J m k + ldK (gj s.J k) m (gj s.J k).length) := Lib.hid rfl
      have HC1 := Lib.hid hc1
      have HL1 : Hid (0 < (gj s.J k).length → ad k = some ⟨b1, f1, none⟩) := Lib.hid fun h => hadr1 (fun e => by rw [e] at h; simp at h)
      clear HE HLJ HJB HKB HMB hbd hc1 hadr1 hI1 hkb
      generalize gj s.J k = l at *
      generalize ad k = al at *
      generalize cp k = cl at *
      generalize ldJ s.J m k = mj at *
      go_wp2_with fail
      obtain ⟨wo, hwo⟩ : ∃ wo, wr.alloc (.cells #[.slice al l.length cl] 62) = wo := ⟨_, rfl⟩
      have hbo : Below wr.heap.size wr wo := by rw [← hwo]; exact (Below.refl _ _).alloc (Nat.le_refl _) _
      have HB2 := Lib.hid (HB.out.on hbo)
      rw [hwo]
      have HC2 : Hid (∀ i, i < l.length → wo.cell? ⟨b1, f1 + i * 4, none⟩ = some (.int .i64 (gs l i).1) ∧ wo.cell? ⟨b1, f1 + i * 4 + 1, none⟩ = some (.int .i64 (gs l i).2.1) ∧ wo.cell? ⟨b1, f1 + i * 4 + 2, none⟩ = some (.int .i64 (gs l i).2.2.1) ∧ wo.cell? ⟨b1, f1 + i * 4 + 3, none⟩ = some (.int .i64 (gs l i).2.2.2)) := Lib.hid fun i hi => by
        obtain ⟨x0, x1, x2, x3⟩ := HC1.out i hi
        exact ⟨cell_below x0 hbo, cell_below x1 hbo, cell_below x2 hbo, cell_below x3 hbo⟩
      clear hwo hbo HB hb p0 p1 p2 p3 p4 p5 c0 HC1
      go_loopw [5, 20] (fun u i wr => ∃ n : Nat, n ≤ l.length ∧ i = .int .i64 n ∧ u = .int .i64 (mj + ldK l m n) ∧ ShBox w wr s ∧ Below wo.heap.size wo wr) (fun _ i _ => l.length - (intOf i).toNat)
      case atStart => exact ⟨0, Nat.zero_le _, rfl, by simp [ldK], HB2.out, Below.refl _ _⟩
      case round =>
        clear HB2
        obtain ⟨n, hn, rfl, rfl, hB1, hbo⟩ := hrel
        have HB := Lib.hid hB1
        obtain ⟨hb, p0, p1, p2, p3, p4, p5⟩ := hB1
        obtain ⟨k0, k1⟩ := HKk.out n hn
        by_cases hlt1 : n < l.length
        · obtain rfl := HL1.out (by omega)
          obtain ⟨c0, c1, c2, c3⟩ := HC2.out n hlt1
          have c0 := cell_below c0 hbo
          have c1 := cell_below c1 hbo
          have c2 := cell_below c2 hbo
          have c3 := cell_below c3 hbo
          have n10 : (n : Int) < l.length := by omega
          obtain ⟨m0, m1⟩ := HMk.out n hlt1
          have HS : Hid (ldK l m (n + 1) = ldK l m n + if (gs l n).1 = m then (gs l n).2.1 else 0) := Lib.hid rfl
          have hn8 : n ≤ 8 := by omega
          clear HC2 HL1 HKk HMk HNx
          generalize ldK l m n = v at *
          generalize (gs l n).1 = x0 at *
          generalize (gs l n).2.1 = x1 at *
          generalize (gs l n).2.2.1 = x2 at *
          generalize (gs l n).2.2.2 = x3 at *
          by_cases hm : x0 = m
          · have hm' : (x0 == m) = true := by simpa using hm
            have HS : Hid (ldK l m (n + 1) = v + x1) := Lib.hid (by rw [HS.out, if_pos hm])
            clear hm
            go_wp2_with fail
            go_roundw
            case rel => exact ⟨n + 1, by omega, by go_num, by rw [HS.out]; go_num, HB.out.on ((Below.refl _ _).alloc (Nat.le_refl _) _), hbo.alloc hbo.size _⟩
            case measure => simp [intOf]; omega
          · have hm' : (x0 == m) = false := by simpa using hm
            have HS : Hid (ldK l m (n + 1) = v) := Lib.hid (by rw [HS.out, if_neg hm]; omega)
            clear hm
            go_wp2_with fail
            go_roundw
            case rel => exact ⟨n + 1, by omega, by go_num, by rw [HS.out], HB.out.on ((Below.refl _ _).alloc (Nat.le_refl _) _), hbo.alloc hbo.size _⟩
            case measure => simp [intOf]; omega
        · obtain rfl : n = l.length := by omega
          clear HC2 HL1 HKk HMk hlt1
          go_wp2_with fail
          go_roundw
          case rel => exact ⟨k + 1, by omega, by go_num, by rw [HNx.out], HB.out⟩
          case measure => simp [intOf]; omega
    · obtain rfl : k = s.J.length := by omega
      clear HE HLJ HJB HKB HMB hlt
      go_wp2_with fail
      refine (HA.out _ hb).mono ?_
      rintro e w1 ⟨rfl, hb1⟩
      go_wp2_with fail
      go_ret
      exact ⟨rfl, hb.trans (hb1.mono hb.size)⟩

set_option maxRecDepth 100000 in
set_option maxHeartbeats 1000000 in
theorem load_ok (s : Sh) (m : Int) (w : World) (hI : ShS w s) (hV : ShOk s) (m0 : 0 ≤ m) (m1 : m < s.M) :
    Calls Try.prog 29 #[.agg #[.int .i64 s.O, .int .i64 s.C, .slice s.aH s.H.length s.cH, .int .i64 s.M, .slice s.aS s.S.length s.cS, .slice s.aJ s.J.length s.cJ], .int .i64 m] w fun e w' => e = .returned (.tuple #[.int .i64 (loadV s m), .int .i64 0]) ∧ Below w.heap.size w w' := by
  have HV := Lib.hid (fun W (hW : Below w.heap.size w W) => Valid_sh s W (hI.below hW))
  have HN := Lib.hid (fun W (hW : Below w.heap.size w W) => load_sh s m W (hI.below hW) hV)
  have hB := ShBox.start w s 25
  have hf := shB_t hV
  rw [hf] at HV
  have hM := hV.2.2.1.1
  have HB1 := Lib.hid (btw_t m0 (show m ≤ s.M - 1 by omega))
  clear hf hI hV
  generalize loadV s m = R at *
  go_enter Try.func29, Try.ntmps29
  go_wp2_with fail
  obtain ⟨wB, hwB⟩ : ∃ wB, w.alloc (.cells #[.int .i64 s.O, .int .i64 s.C, .slice s.aH s.H.length s.cH, .int .i64 s.M, .slice s.aS s.S.length s.cS, .slice s.aJ s.J.length s.cJ] 25) = wB := ⟨_, rfl⟩
  rw [hwB] at hB ⊢
  clear hwB
  refine (HV.out _ hB.1).mono ?_
  rintro e w1 ⟨rfl, hb1⟩
  obtain ⟨hb, p0, p1, p2, p3, p4, p5⟩ := hB.on hb1
  clear hb1 hB HV
  go_wp2_with (go_at_call 53; refine (sbt_any _ _ _ _).mono ?_; rintro e w' ⟨rfl, rfl⟩; rw [HB1.out])
  refine (HN.out _ hb).mono ?_
  rintro e w2 ⟨rfl, hb2⟩
  go_wp2_with fail
  go_returns
  exact ⟨rfl, hb.trans (hb2.mono hb.size)⟩
theorem load_arg (s : Sh) (m : Int) (w : World) (hI : ShS w s) (hV : ShOk s) (h : ¬ (0 ≤ m ∧ m < s.M)) :
    Calls Try.prog 29 #[.agg #[.int .i64 s.O, .int .i64 s.C, .slice s.aH s.H.length s.cH, .int .i64 s.M, .slice s.aS s.S.length s.cS, .slice s.aJ s.J.length s.cJ], .int .i64 m] w fun e w' => e = .returned (.tuple #[.int .i64 0, .int .i64 2]) ∧ Below w.heap.size w w' := by
  have HV := Lib.hid (fun W (hW : Below w.heap.size w W) => Valid_sh s W (hI.below hW))
  have hB := ShBox.start w s 25
  have hf := shB_t hV
  rw [hf] at HV
  have hM := hV.2.2.1.1
  have HB1 := Lib.hid (btw_f (n := m) (a := 0) (b := s.M - 1) (fun g => h ⟨g.1, by omega⟩))
  clear hf hI hV h
  go_enter Try.func29, Try.ntmps29
  go_wp2_with fail
  obtain ⟨wB, hwB⟩ : ∃ wB, w.alloc (.cells #[.int .i64 s.O, .int .i64 s.C, .slice s.aH s.H.length s.cH, .int .i64 s.M, .slice s.aS s.S.length s.cS, .slice s.aJ s.J.length s.cJ] 25) = wB := ⟨_, rfl⟩
  rw [hwB] at hB ⊢
  clear hwB
  refine (HV.out _ hB.1).mono ?_
  rintro e w1 ⟨rfl, hb1⟩
  obtain ⟨hb, p0, p1, p2, p3, p4, p5⟩ := hB.on hb1
  clear hb1 hB HV
  go_wp2_with (go_at_call 53; refine (sbt_any _ _ _ _).mono ?_; rintro e w' ⟨rfl, rfl⟩; rw [HB1.out])
  go_returns
  exact ⟨rfl, hb⟩
end Go.Proofs.Ytmdifgkalooaoaa
