/-
  The walks of Bound of both. By an AI agent.
-/
import Derived.Test.YtmdifgkalooaoaaShopT
import Derived.Deep.RegionHeld3
namespace Go.Proofs.Ytmdifgkalooaoaa
set_option linter.unusedVariables false
set_option linter.unusedSimpArgs false
open Go.RowKit

/-- The greatest chain of the first i jobs. -/
noncomputable def mxC (s : Sh) : Nat → Int
  | 0 => 0
  | i + 1 => max (mxC s i) (chainV s (gj s.J i))
/-- That, or the greatest load of the first m machines. -/
noncomputable def mxL (s : Sh) : Nat → Int
  | 0 => mxC s s.J.length
  | m + 1 => max (mxL s m) (loadV s m)
noncomputable def boundV (s : Sh) : Int := mxL s s.M.toNat

set_option maxRecDepth 100000 in
set_option maxHeartbeats 4000000 in
theorem bound_ok (s : Sh) (w : World) (hI : ShS w s) (hV : ShOk s) :
    Calls Try.prog 30 #[.agg #[.int .i64 s.O, .int .i64 s.C, .slice s.aH s.H.length s.cH, .int .i64 s.M, .slice s.aS s.S.length s.cS, .slice s.aJ s.J.length s.cJ]] w fun e w' => e = .returned (.tuple #[.int .i64 (boundV s), .int .i64 0]) ∧ Below w.heap.size w w' := by
  have h12 := hV.2.2.2.1
  obtain ⟨n, hM⟩ : ∃ n : Nat, s.M = n := ⟨s.M.toNat, by have := hV.2.2.1.1; omega⟩
  have hn6 : n ≤ 6 := by have := hV.2.2.1.1; omega
  have hMt : s.M.toNat = n := by omega
  obtain ⟨hlJ, blk, off, ad, cp, hadr, hc⟩ := hI.2.2
  obtain ⟨aj, haj⟩ : ∃ aj, s.aJ = aj := ⟨_, rfl⟩
  have HV := Lib.hid (fun W (hW : Below w.heap.size w W) => Valid_sh s W (hI.below hW))
  have HCh := Lib.hid (fun k (hk : k < s.J.length) W (hW : Below w.heap.size w W) => chain_sh s (ad k) (gj s.J k) (cp k) W (hI.below hW) hV ((hc k hk).2.1.below hW) (hV.2.2.2.2 k hk))
  have HLd := Lib.hid (fun (k : Nat) W (hW : Below w.heap.size w W) => load_sh s k W (hI.below hW) hV)
  have HE : Hid (∀ k, k < s.J.length → w.cell? ⟨blk, off + k, none⟩ = some (.slice (ad k) (gj s.J k).length (cp k)) ∧ (gj s.J k).length ≤ 9223372036854775807) := Lib.hid fun k hk => ⟨(hc k hk).1, (hc k hk).2.1.1⟩
  have HLJ : Hid (0 < s.J.length → aj = some ⟨blk, off, none⟩) := Lib.hid fun h => haj ▸ hadr (fun e => by rw [e] at h; simp at h)
  have HXC : Hid (∀ k, mxC s (k + 1) = max (mxC s k) (chainV s (gj s.J k))) := Lib.hid fun _ => rfl
  have HXL : Hid (∀ k, mxL s (k + 1) = max (mxL s k) (loadV s k)) := Lib.hid fun _ => rfl
  have HX0 : Hid (mxL s 0 = mxC s s.J.length) := Lib.hid rfl
  have HFin : Hid (boundV s = mxL s n) := Lib.hid (by unfold boundV; rw [hMt])
  have HC0 : Hid (mxC s 0 = 0) := Lib.hid rfl
  rw [HFin.out]
  have hB := ShBox.start w s 25
  rw [shB_t hV] at HV
  rw [haj] at HV HCh HLd hB
  have HM := Lib.hid hM
  clear hI hV hadr hc HFin hMt hM
  go_enter Try.func30, Try.ntmps30
  go_wp2_with fail
  obtain ⟨wB, hwB⟩ : ∃ wB, w.alloc (.cells #[.int .i64 s.O, .int .i64 s.C, .slice s.aH s.H.length s.cH, .int .i64 s.M, .slice s.aS s.S.length s.cS, .slice aj s.J.length s.cJ] 25) = wB := ⟨_, rfl⟩
  rw [hwB] at hB ⊢
  clear hwB
  refine (HV.out _ hB.1).mono ?_
  rintro e w1 ⟨rfl, hb1⟩
  have HB0 := Lib.hid (hB.on hb1)
  obtain ⟨hb, p0, p1, p2, p3, p4, p5⟩ := hB.on hb1
  clear hB hb1 HV
  go_wp2_with fail
  clear hb p0 p1 p2 p3 p4 p5
  go_loopw [4, 14] (fun u i wr => ∃ k : Nat, k ≤ s.J.length ∧ i = .int .i64 k ∧ u = .int .i64 (mxC s k) ∧ ShBox w wr s) (fun _ i _ => s.J.length - (intOf i).toNat)
  case atStart => exact ⟨0, Nat.zero_le _, rfl, by rw [HC0.out], HB0.out⟩
  case round =>
    clear HB0
    obtain ⟨k, hk, rfl, rfl, hB1⟩ := hrel
    have HB := Lib.hid hB1
    obtain ⟨hb, p0, p1, p2, p3, p4, p5⟩ := hB1
    by_cases hlt : k < s.J.length
    · obtain rfl := HLJ.out (by omega)
      obtain ⟨c0, hln⟩ := HE.out k hlt
      have c0 := cell_below c0 hb
      have n9 : (k : Int) < s.J.length := by omega
      have HCk := Lib.hid (HCh.out k hlt)
      have HX := Lib.hid (HXC.out k)
      clear HE HLJ HCh HLd HXC HXL HX0 HC0
      generalize chainV s (gj s.J k) = cv at *
      generalize (gj s.J k).length = ln at *
      generalize ad k = al at *
      generalize cp k = cl at *
      generalize mxC s k = mc at *
      rcases Int.lt_trichotomy mc cv with hl | hl | hl
      · have HR := Lib.hid (HX.out.trans (show max mc cv = cv by omega))
        clear HX
        have zq := block_lt p0
        have qq : ∀ o O, (wr.alloc O).cell? ⟨w.heap.size, o, none⟩ = wr.cell? ⟨w.heap.size, o, none⟩ := fun o O => ((Below.refl wr.heap.size wr).alloc (Nat.le_refl _) O).cell (p := ⟨w.heap.size, o, none⟩) zq
        go_wp2_with fail
        obtain ⟨wo, hwo⟩ : ∃ wo, wr.alloc (.cells #[.slice al ln cl] 62) = wo := ⟨_, rfl⟩
        have hB2 : ShBox w wo s := by rw [← hwo]; exact HB.out.on ((Below.refl _ _).alloc (Nat.le_refl _) _)
        have q0 : wo.cell? ⟨wr.heap.size, 0, none⟩ = some (.slice al ln cl) := by rw [← hwo]; simp [go_sem]
        rw [hwo]
        clear hwo HB hb p0 p1 p2 p3 p4 p5 c0 qq zq
        refine (HCk.out _ hB2.1).mono ?_
        rintro e w3 ⟨rfl, hb3⟩
        go_wp2_with fail
        go_roundw
        case rel => exact ⟨k + 1, by omega, by go_num, by rw [HR.out]; try (congr 1; omega), hB2.on hb3⟩
        case measure => simp [intOf]; omega
      · have h1 : mc ≤ cv := by omega
        have h2 : cv ≤ mc := by omega
        have HR := Lib.hid (HX.out.trans (show max mc cv = cv by omega))
        clear HX hl
        have zq := block_lt p0
        have qq : ∀ o O, (wr.alloc O).cell? ⟨w.heap.size, o, none⟩ = wr.cell? ⟨w.heap.size, o, none⟩ := fun o O => ((Below.refl wr.heap.size wr).alloc (Nat.le_refl _) O).cell (p := ⟨w.heap.size, o, none⟩) zq
        go_wp2_with fail
        obtain ⟨wo, hwo⟩ : ∃ wo, wr.alloc (.cells #[.slice al ln cl] 62) = wo := ⟨_, rfl⟩
        have hB2 : ShBox w wo s := by rw [← hwo]; exact HB.out.on ((Below.refl _ _).alloc (Nat.le_refl _) _)
        have q0 : wo.cell? ⟨wr.heap.size, 0, none⟩ = some (.slice al ln cl) := by rw [← hwo]; simp [go_sem]
        rw [hwo]
        clear hwo HB hb p0 p1 p2 p3 p4 p5 c0 qq zq
        refine (HCk.out _ hB2.1).mono ?_
        rintro e w3 ⟨rfl, hb3⟩
        go_wp2_with fail
        go_roundw
        case rel => exact ⟨k + 1, by omega, by go_num, by rw [HR.out]; try (congr 1; omega), hB2.on hb3⟩
        case measure => simp [intOf]; omega
      · have HR := Lib.hid (HX.out.trans (show max mc cv = mc by omega))
        clear HX
        have zq := block_lt p0
        have qq : ∀ o O, (wr.alloc O).cell? ⟨w.heap.size, o, none⟩ = wr.cell? ⟨w.heap.size, o, none⟩ := fun o O => ((Below.refl wr.heap.size wr).alloc (Nat.le_refl _) O).cell (p := ⟨w.heap.size, o, none⟩) zq
        go_wp2_with fail
        obtain ⟨wo, hwo⟩ : ∃ wo, wr.alloc (.cells #[.slice al ln cl] 62) = wo := ⟨_, rfl⟩
        have hB2 : ShBox w wo s := by rw [← hwo]; exact HB.out.on ((Below.refl _ _).alloc (Nat.le_refl _) _)
        have q0 : wo.cell? ⟨wr.heap.size, 0, none⟩ = some (.slice al ln cl) := by rw [← hwo]; simp [go_sem]
        rw [hwo]
        clear hwo HB hb p0 p1 p2 p3 p4 p5 c0 qq zq
        refine (HCk.out _ hB2.1).mono ?_
        rintro e w3 ⟨rfl, hb3⟩
        go_wp2_with fail
        go_roundw
        case rel => exact ⟨k + 1, by omega, by go_num, by rw [HR.out]; try (congr 1; omega), hB2.on hb3⟩
        case measure => simp [intOf]; omega
    · obtain rfl : k = s.J.length := by omega
      rw [← HX0.out]
      clear HE HLJ HCh HXC HX0 HC0 hlt
      go_wp2_with fail
      clear hb p0 p1 p2 p3 p4 p5
      go_loopw [4, 26] (fun u i wr => ∃ k : Nat, k ≤ n ∧ i = .int .i64 k ∧ u = .int .i64 (mxL s k) ∧ ShBox w wr s) (fun _ i _ => n - (intOf i).toNat)
      case atStart => exact ⟨0, Nat.zero_le _, rfl, rfl, HB.out⟩
      case round =>
        clear HB
        obtain ⟨k, hk, rfl, rfl, hB1⟩ := hrel
        have HB := Lib.hid hB1
        obtain ⟨hb, p0, p1, p2, p3, p4, p5⟩ := hB1
        by_cases hlt : k < n
        · have n9 : (k : Int) < s.M := by have := HM.out; omega
          have HCk := Lib.hid (HLd.out k)
          have HX := Lib.hid (HXL.out k)
          clear HLd HXL
          generalize loadV s k = cv at *
          generalize mxL s k = mc at *
          rcases Int.lt_trichotomy mc cv with hl | hl | hl
          · have HR := Lib.hid (HX.out.trans (show max mc cv = cv by omega))
            clear HX
            go_wp2_with fail
            refine (HCk.out _ hb).mono ?_
            rintro e w3 ⟨rfl, hb3⟩
            go_wp2_with fail
            go_roundw
            case rel => exact ⟨k + 1, by omega, by go_num, by rw [HR.out]; try (congr 1; omega), HB.out.on hb3⟩
            case measure => simp [intOf]; omega
          · have h1 : mc ≤ cv := by omega
            have h2 : cv ≤ mc := by omega
            have HR := Lib.hid (HX.out.trans (show max mc cv = cv by omega))
            clear HX hl
            go_wp2_with fail
            refine (HCk.out _ hb).mono ?_
            rintro e w3 ⟨rfl, hb3⟩
            go_wp2_with fail
            go_roundw
            case rel => exact ⟨k + 1, by omega, by go_num, by rw [HR.out]; try (congr 1; omega), HB.out.on hb3⟩
            case measure => simp [intOf]; omega
          · have HR := Lib.hid (HX.out.trans (show max mc cv = mc by omega))
            clear HX
            go_wp2_with fail
            refine (HCk.out _ hb).mono ?_
            rintro e w3 ⟨rfl, hb3⟩
            go_wp2_with fail
            go_roundw
            case rel => exact ⟨k + 1, by omega, by go_num, by rw [HR.out]; try (congr 1; omega), HB.out.on hb3⟩
            case measure => simp [intOf]; omega
        · obtain rfl : k = n := by omega
          have n9 : ¬ (k : Int) < s.M := by have := HM.out; omega
          clear HLd HXL hlt
          go_wp2_with fail
          go_returns
          exact ⟨rfl, hb⟩
set_option maxRecDepth 100000 in
set_option maxHeartbeats 4000000 in
theorem refBound_sh (s : Sh) (w : World) (hI : ShS w s) (hV : ShOk s) :
    Calls Try.prog 44 #[.agg #[.int .i64 s.O, .int .i64 s.C, .slice s.aH s.H.length s.cH, .int .i64 s.M, .slice s.aS s.S.length s.cS, .slice s.aJ s.J.length s.cJ]] w fun e w' => e = .returned (.int .i64 (boundV s)) ∧ Below w.heap.size w w' := by
  have h12 := hV.2.2.2.1
  obtain ⟨n, hM⟩ : ∃ n : Nat, s.M = n := ⟨s.M.toNat, by have := hV.2.2.1.1; omega⟩
  have hn6 : n ≤ 6 := by have := hV.2.2.1.1; omega
  have hMt : s.M.toNat = n := by omega
  obtain ⟨hlJ, blk, off, ad, cp, hadr, hc⟩ := hI.2.2
  have HCh := Lib.hid (fun k (hk : k < s.J.length) W (hW : Below w.heap.size w W) => refChain_sh s k W (hI.below hW) hV hk)
  have HLd := Lib.hid (fun (k : Nat) W (hW : Below w.heap.size w W) => refLoad_sh s k W (hI.below hW) hV)
  have HXC : Hid (∀ k, mxC s (k + 1) = max (mxC s k) (chainV s (gj s.J k))) := Lib.hid fun _ => rfl
  have HXL : Hid (∀ k, mxL s (k + 1) = max (mxL s k) (loadV s k)) := Lib.hid fun _ => rfl
  have HX0 : Hid (mxL s 0 = mxC s s.J.length) := Lib.hid rfl
  have HFin : Hid (boundV s = mxL s n) := Lib.hid (by unfold boundV; rw [hMt])
  have HC0 : Hid (mxC s 0 = 0) := Lib.hid rfl
  rw [HFin.out]
  have hB := ShBox.start w s 25
  have HM := Lib.hid hM
  clear hI hV hadr hc HFin hMt hM
  go_enter Try.func44, Try.ntmps44
  go_wp2_with fail
  obtain ⟨wB, hwB⟩ : ∃ wB, w.alloc (.cells #[.int .i64 s.O, .int .i64 s.C, .slice s.aH s.H.length s.cH, .int .i64 s.M, .slice s.aS s.S.length s.cS, .slice s.aJ s.J.length s.cJ] 25) = wB := ⟨_, rfl⟩
  rw [hwB] at hB ⊢
  clear hwB
  have HB0 := Lib.hid hB
  clear hB
  go_loopw [3, 4] (fun u i wr => ∃ k : Nat, k ≤ s.J.length ∧ i = .int .i64 k ∧ u = .int .i64 (mxC s k) ∧ ShBox w wr s) (fun _ i _ => s.J.length - (intOf i).toNat)
  case atStart => exact ⟨0, Nat.zero_le _, rfl, by rw [HC0.out], HB0.out⟩
  case round =>
    clear HB0
    obtain ⟨k, hk, rfl, rfl, hB1⟩ := hrel
    have HB := Lib.hid hB1
    obtain ⟨hb, p0, p1, p2, p3, p4, p5⟩ := hB1
    by_cases hlt : k < s.J.length
    · have n9 : (k : Int) < s.J.length := by omega
      have HCk := Lib.hid (HCh.out k hlt)
      have HX := Lib.hid (HXC.out k)
      clear HCh HLd HXC HXL HX0 HC0
      generalize chainV s (gj s.J k) = cv at *
      generalize mxC s k = mc at *
      rcases Int.lt_trichotomy mc cv with hl | hl | hl
      · have HR := Lib.hid (HX.out.trans (show max mc cv = cv by omega))
        clear HX
        go_wp2_with fail
        refine (HCk.out _ hb).mono ?_
        rintro e w3 ⟨rfl, hb3⟩
        go_wp2_with fail
        go_roundw
        case rel => exact ⟨k + 1, by omega, by go_num, by rw [HR.out]; try (congr 1; omega), HB.out.on hb3⟩
        case measure => simp [intOf]; omega
      · have h1 : mc ≤ cv := by omega
        have h2 : cv ≤ mc := by omega
        have HR := Lib.hid (HX.out.trans (show max mc cv = cv by omega))
        clear HX hl
        go_wp2_with fail
        refine (HCk.out _ hb).mono ?_
        rintro e w3 ⟨rfl, hb3⟩
        go_wp2_with fail
        go_roundw
        case rel => exact ⟨k + 1, by omega, by go_num, by rw [HR.out]; try (congr 1; omega), HB.out.on hb3⟩
        case measure => simp [intOf]; omega
      · have HR := Lib.hid (HX.out.trans (show max mc cv = mc by omega))
        clear HX
        go_wp2_with fail
        refine (HCk.out _ hb).mono ?_
        rintro e w3 ⟨rfl, hb3⟩
        go_wp2_with fail
        go_roundw
        case rel => exact ⟨k + 1, by omega, by go_num, by rw [HR.out]; try (congr 1; omega), HB.out.on hb3⟩
        case measure => simp [intOf]; omega
    · obtain rfl : k = s.J.length := by omega
      rw [← HX0.out]
      clear HCh HXC HX0 HC0 hlt
      go_wp2_with fail
      clear hb p0 p1 p2 p3 p4 p5
      go_loopw [3, 5] (fun u i wr => ∃ k : Nat, k ≤ n ∧ i = .int .i64 k ∧ u = .int .i64 (mxL s k) ∧ ShBox w wr s) (fun _ i _ => n - (intOf i).toNat)
      case atStart => exact ⟨0, Nat.zero_le _, rfl, rfl, HB.out⟩
      case round =>
        clear HB
        obtain ⟨k, hk, rfl, rfl, hB1⟩ := hrel
        have HB := Lib.hid hB1
        obtain ⟨hb, p0, p1, p2, p3, p4, p5⟩ := hB1
        by_cases hlt : k < n
        · have n9 : (k : Int) < s.M := by have := HM.out; omega
          have HCk := Lib.hid (HLd.out k)
          have HX := Lib.hid (HXL.out k)
          clear HLd HXL
          generalize loadV s k = cv at *
          generalize mxL s k = mc at *
          rcases Int.lt_trichotomy mc cv with hl | hl | hl
          · have HR := Lib.hid (HX.out.trans (show max mc cv = cv by omega))
            clear HX
            go_wp2_with fail
            refine (HCk.out _ hb).mono ?_
            rintro e w3 ⟨rfl, hb3⟩
            go_wp2_with fail
            go_roundw
            case rel => exact ⟨k + 1, by omega, by go_num, by rw [HR.out]; try (congr 1; omega), HB.out.on hb3⟩
            case measure => simp [intOf]; omega
          · have h1 : mc ≤ cv := by omega
            have h2 : cv ≤ mc := by omega
            have HR := Lib.hid (HX.out.trans (show max mc cv = cv by omega))
            clear HX hl
            go_wp2_with fail
            refine (HCk.out _ hb).mono ?_
            rintro e w3 ⟨rfl, hb3⟩
            go_wp2_with fail
            go_roundw
            case rel => exact ⟨k + 1, by omega, by go_num, by rw [HR.out]; try (congr 1; omega), HB.out.on hb3⟩
            case measure => simp [intOf]; omega
          · have HR := Lib.hid (HX.out.trans (show max mc cv = mc by omega))
            clear HX
            go_wp2_with fail
            refine (HCk.out _ hb).mono ?_
            rintro e w3 ⟨rfl, hb3⟩
            go_wp2_with fail
            go_roundw
            case rel => exact ⟨k + 1, by omega, by go_num, by rw [HR.out]; try (congr 1; omega), HB.out.on hb3⟩
            case measure => simp [intOf]; omega
        · obtain rfl : k = n := by omega
          have n9 : ¬ (k : Int) < s.M := by have := HM.out; omega
          clear HLd HXL hlt
          go_wp2_with fail
          go_ret
          exact ⟨rfl, hb⟩
end Go.Proofs.Ytmdifgkalooaoaa
