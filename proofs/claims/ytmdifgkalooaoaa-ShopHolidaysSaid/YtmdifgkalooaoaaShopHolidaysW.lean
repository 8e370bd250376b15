/-
  The walk of the law ShopHolidays: it answers true. By an AI agent.
-/
import Derived.Test.YtmdifgkalooaoaaShopFi
import Derived.Test.YtmdifgkalooaoaaShopL2
import Derived.Test.YtmdifgkalooaoaaShopG
import Derived.Test.YtmdifgkalooaoaaShopHm
import Derived.Deep.RegionHeld3
import Derived.Deep.AppendLies
import Derived.Deep.RegionLaw
import Derived.OwnWalk
import Derived.Laws.OwnMore
namespace Go.Proofs.Ytmdifgkalooaoaa
set_option linter.unusedVariables false
set_option linter.unusedSimpArgs false
open Go.RowKit

theorem intInfo : (Try.prog.info? 3).map (fun i => (i.zero, i.size, i.bytes)) = some (some (.int .i64 0), 1, 8) := by kernel_rfl
/-- The box of the shop with one more holiday, in which its list lies. -/
def MBox (w2 wr : World) (s : Sh) (a : Option Addr) (n c : Nat) : Prop :=
  Below w2.heap.size w2 wr ∧ w2.heap.size < wr.heap.size ∧ wr.cell? ⟨w2.heap.size, 0, none⟩ = some (.int .i64 s.O) ∧ wr.cell? ⟨w2.heap.size, 1, none⟩ = some (.int .i64 s.C) ∧ wr.cell? ⟨w2.heap.size, 2, none⟩ = some (.slice a n c) ∧ wr.cell? ⟨w2.heap.size, 3, none⟩ = some (.int .i64 s.M) ∧ wr.cell? ⟨w2.heap.size, 4, none⟩ = some (.slice s.aS s.S.length s.cS) ∧ wr.cell? ⟨w2.heap.size, 5, none⟩ = some (.slice s.aJ s.J.length s.cJ) ∧ wr.frozen? ⟨w2.heap.size, 2, none⟩ = false
/-- What the list has: the first k holidays, and nothing out of range. -/
def MList (H : List Int) (k : Nat) (L : List Int) : Prop := L.length ≤ 2 * k ∧ (∀ j, j < k → gi H j ∈ L) ∧ ∀ x, x ∈ L → 0 ≤ x ∧ x ≤ 10000
def ivs (L : List Int) : List Value := L.map fun x => .int .i64 x
theorem ivs_app (L : List Int) (x : Int) : ivs (L ++ [x]) = ivs L ++ [.int .i64 x] := by simp [ivs]
theorem ints_ivs {w : World} {base c : Nat} {a : Option Addr} {L : List Int} (h : w.ownsRow base 3 1 (.slice a L.length c) L.length (ivs L)) (hn : L.length ≤ 9223372036854775807) (hf : ∀ x, x ∈ L → I64 x) : IntsS w a L := by
  refine ⟨hn, fun i hi => ?_, ?_⟩
  · unfold gi; rw [List.getD_eq_getElem?_getD, List.getElem?_eq_getElem hi]; exact hf _ (List.getElem_mem hi)
  rcases h.2 with ⟨h1, h2⟩ | ⟨g2, c2, cur, h1, _⟩
  · exact ⟨0, 0, (fun hne => absurd (List.eq_nil_of_length_eq_zero h2) hne), fun i hi => by omega⟩
  · obtain ⟨rfl, rfl⟩ : a = some ⟨g2, 0, none⟩ ∧ c = c2 := by simpa using h1
    refine ⟨g2, 0, fun _ => rfl, fun i hi => ?_⟩
    rw [Nat.zero_add, World.ownsRow.cellAt h i (by omega)]
    unfold ivs gi
    rw [List.getElem?_map, List.getD_eq_getElem?_getD, List.getElem?_eq_getElem hi]
    rfl

set_option maxRecDepth 100000 in
set_option maxHeartbeats 8000000 in
theorem shopHolidays_any (s : Sh) (x0 x1 x2 x3 x4 : Int) (w : World) (hI : ShS w s) (b0 : 0 ≤ x0 ∧ x0 ≤ 65535) (b1 : 0 ≤ x1 ∧ x1 ≤ 65535) (b2 : 0 ≤ x2 ∧ x2 ≤ 65535) (b3 : 0 ≤ x3 ∧ x3 ≤ 255) (b4 : 0 ≤ x4 ∧ x4 ≤ 255) :
    Calls Try.prog 17 #[.agg #[.int .i64 s.O, .int .i64 s.C, .slice s.aH s.H.length s.cH, .int .i64 s.M, .slice s.aS s.S.length s.cS, .slice s.aJ s.J.length s.cJ], .agg #[.int .u16 x0, .int .u16 x1, .int .u16 x2, .int .u8 x3, .int .u8 x4]] w fun e w' => e = .returned (.bool true) ∧ Below w.heap.size w w' := by
  have HLo := Lib.hid (fun W (hW : Below w.heap.size w W) => long_sh s W (hI.below hW))
  have HRV := Lib.hid (fun W (hW : Below w.heap.size w W) => refValid_sh s W (hI.below hW))
  have HFi := Lib.hid first_sh
  have hB := ShBox.start w s 25
  by_cases hV : ShOk s
  · rw [shB_t hV] at HRV
    obtain ⟨o0, o1, o2⟩ := hV.1
    obtain ⟨a0, a1⟩ := b0
    obtain ⟨a2, a3⟩ := b1
    obtain ⟨a4, a5⟩ := b2
    obtain ⟨a6, a7⟩ := b3
    obtain ⟨a8, a9⟩ := b4
    have hH := hV.2.1
    have h400 := hH.1
    obtain ⟨-, -, blk, off, hadr, hc⟩ := hI.1
    have HC := Lib.hid hc
    have HLH : Hid (0 < s.H.length → s.aH = some ⟨blk, off, none⟩) := Lib.hid fun h => hadr (fun e => by rw [e] at h; simp at h)
    have HHB : Hid (∀ k, k < s.H.length → 0 ≤ gi s.H k ∧ gi s.H k ≤ 10000) := Lib.hid fun k hk => ⟨(hH.2 k hk).1, (hH.2 k hk).2.1⟩
    obtain ⟨n0, hi, hz0, hz1, hz2⟩ := info_parts intInfo
    have HI := Lib.hid hI
    have HVs := Lib.hid hV
    have dd0 : 0 ≤ x0 % 200 := by omega
    have dd1 : x0 % 200 ≤ 200 := by omega
    clear hV hI hH hadr hc
    go_enter Try.func17, Try.ntmps17
    go_wp2_with fail
    obtain ⟨wB, hwB⟩ : ∃ wB, (w.alloc (.cells #[.int .i64 s.O, .int .i64 s.C, .slice s.aH s.H.length s.cH, .int .i64 s.M, .slice s.aS s.S.length s.cS, .slice s.aJ s.J.length s.cJ] 25)).alloc (.cells #[.int .u16 x0, .int .u16 x1, .int .u16 x2, .int .u8 x3, .int .u8 x4] 70) = wB := ⟨_, rfl⟩
    have hB : ShBox w wB s := by rw [← hwB]; exact hB.on ((Below.refl _ _).alloc (Nat.le_refl _) _)
    have q0 : wB.cell? ⟨w.heap.size + 1, 0, none⟩ = some (.int .u16 x0) := by rw [← hwB]; simp [go_sem]
    have q1 : wB.cell? ⟨w.heap.size + 1, 1, none⟩ = some (.int .u16 x1) := by rw [← hwB]; simp [go_sem]
    have q2 : wB.cell? ⟨w.heap.size + 1, 2, none⟩ = some (.int .u16 x2) := by rw [← hwB]; simp [go_sem]
    have q3 : wB.cell? ⟨w.heap.size + 1, 3, none⟩ = some (.int .u8 x3) := by rw [← hwB]; simp [go_sem]
    have q4 : wB.cell? ⟨w.heap.size + 1, 4, none⟩ = some (.int .u8 x4) := by rw [← hwB]; simp [go_sem]
    rw [hwB]
    clear hwB
    refine (HLo.out _ hB.1).mono ?_
    rintro e w1 ⟨⟨b, rfl⟩, hb1⟩
    have q0 := cell_below q0 hb1
    have q1 := cell_below q1 hb1
    have q2 := cell_below q2 hb1
    have q3 := cell_below q3 hb1
    have q4 := cell_below q4 hb1
    have HB := Lib.hid (hB.on hb1)
    obtain ⟨hb, p0, p1, p2, p3, p4, p5⟩ := hB.on hb1
    clear hb1 hB
    cases b with
    | true =>
      go_wp2_with fail
      refine (HFi.out _).mono ?_
      rintro e w9 ⟨rfl, hb9⟩
      go_wp2_with fail
      go_ret
      exact ⟨rfl, hb.trans (hb9.mono hb.size)⟩
    | false =>
      go_wp2_with fail
      refine (HRV.out _ hb).mono ?_
      rintro e w2 ⟨rfl, hb2⟩
      have q0 := cell_below q0 hb2
      have q1 := cell_below q1 hb2
      have q2 := cell_below q2 hb2
      have q3 := cell_below q3 hb2
      have q4 := cell_below q4 hb2
      have HX0 := Lib.hid (HB.out.on hb2)
      obtain ⟨hb, p0, p1, p2, p3, p4, p5⟩ := HB.out.on hb2
      clear hb2 HB
      have zq := block_lt q0
      have zp := block_lt p0
      have nq : w.heap.size + 1 ≠ w2.heap.size := by omega
      have np : w.heap.size ≠ w2.heap.size := by omega
      have qq : ∀ o O, (w2.alloc O).cell? ⟨w.heap.size + 1, o, none⟩ = w2.cell? ⟨w.heap.size + 1, o, none⟩ := fun o O => ((Below.refl w2.heap.size w2).alloc (Nat.le_refl _) O).cell (p := ⟨w.heap.size + 1, o, none⟩) zq
      go_wp2_with fail
      go_loopw [7, 8] (fun pu i wr => ∃ (k : Nat) (L : List Int) (a : Option Addr) (c : Nat) (b : Bool), k ≤ s.H.length ∧ i = .int .i64 k ∧ pu = .bool b ∧ MBox w2 wr s a L.length c ∧ Hid (wr.ownsRow (w2.heap.size + 1) 3 1 (.slice a L.length c) L.length (ivs L)) ∧ MList s.H k L) (fun _ i _ => s.H.length - (intOf i).toNat)
      case atStart =>
        refine ⟨0, [], none, 0, false, Nat.zero_le _, rfl, rfl, ⟨by first | exact ((Below.refl _ _).alloc (Nat.le_refl _) _).setCell (Nat.le_refl _) _ | exact (Below.refl _ _).alloc (Nat.le_refl _) _, by simp, by simp [go_sem], by simp [go_sem], by simp [go_sem], by simp [go_sem], by simp [go_sem], by simp [go_sem], by simp [go_sem]⟩, Lib.hid ⟨rfl, .inl ⟨rfl, rfl⟩⟩, by simp, fun j hj => absurd hj (Nat.not_lt_zero _), fun x hx => by simp at hx⟩
      case round =>
        obtain ⟨k, Lz, az, cz, b, hk, rfl, rfl, hMB, HRow, hML⟩ := hrel
        have HMLz := Lib.hid hML
        have hL2 := hML.1
        obtain ⟨hbz, hzs, m0, m1, m2, m3, m4, m5, mf⟩ := hMB
        have HBz := Lib.hid (HX0.out.on hbz)
        by_cases hlt : k < s.H.length
        · have HA := Lib.hid (HLH.out (by omega))
          have C0 := Lib.hid (cell_below (HC.out k hlt) hb)
          have c0 := cell_below C0.out hbz
          obtain ⟨g0, g1⟩ := HHB.out k hlt
          have HMS : Hid (∀ L', L'.length ≤ Lz.length + 1 → (∀ y, y ∈ Lz → y ∈ L') → (∀ y, y ∈ L' → 0 ≤ y ∧ y ≤ 10000) → MList s.H (k + 1) (L' ++ [gi s.H k])) := Lib.hid fun L' h1 h2 h3 => ⟨by simp; omega, fun j hj => by
            rw [List.mem_append]
            by_cases e : j = k
            · subst e; right; simp
            · left; exact h2 _ (HMLz.out.2.1 j (by omega)), fun y hy => by
            rw [List.mem_append] at hy
            rcases hy with hy | hy
            · exact h3 y hy
            · simp at hy; subst hy; exact ⟨g0, g1⟩⟩
          obtain ⟨_, p0, p1, p2, p3, p4, p5⟩ := HBz.out
          have n3 : (k : Int) < s.H.length := by omega
          have P2 := Lib.hid (HX0.out.2.2.2.1)
          rw [HA.out] at p2 P2
          clear HC HLH HHB HA hML
          generalize gi s.H k = x at *
          obtain ⟨wz, rfl⟩ : ∃ wz : World, wz = wr := ⟨_, rfl⟩
          have hbz0 := hbz
          cases b with
          | true =>
            have HML := Lib.hid (HMS.out Lz (by omega) (fun _ h => h) HMLz.out.2.2)
            obtain ⟨nz, hnz⟩ : ∃ nz, Lz.length = nz := ⟨_, rfl⟩
            obtain ⟨csz, hcsz⟩ : ∃ csz, ivs Lz = csz := ⟨_, rfl⟩
            have HLz : Hid (Lz.length = nz ∧ ivs Lz = csz) := Lib.hid ⟨hnz, hcsz⟩
            rw [hnz] at m2 HRow hL2
            rw [hcsz] at HRow
            clear hnz hcsz HMS HMLz
            go_wp2_with fail
            have qm : ∀ o O, (wz.alloc O).cell? ⟨w2.heap.size, o, none⟩ = wz.cell? ⟨w2.heap.size, o, none⟩ := fun o O => ((Below.refl wz.heap.size wz).alloc (Nat.le_refl _) O).cell (p := ⟨w2.heap.size, o, none⟩) hzs
            go_region_law
              (refine step_append_lies _ (by rfl) _ _ _ (by rfl) (w2.heap.size + 1) 3 n0 _ 1 8 Try.underlying22 hi hz0 hz1 hz2 rfl (by decide) (.slice az nz cz) nz _ (by rfl) ((HRow.out.alloc _).drew) ⟨wz.heap.size, 0, none⟩ 1 1 [.int .i64 (x)] (by rfl) (by rfl) ?d1 ?d2 (by decide) ?d3 ?d4 ?d5 (wz.heap.size + 1) (by simp) ?_
               case d1 =>
                 refine World.news_of_block (cs := #[.int .i64 (x)]) (t := 3) (fr := (0, 0)) ?_
                 exact heap_alloc_new wz _
               case d2 => simp [Value.oneCell']
               case d3 => unfold maxLen; omega
               case d4 => omega
               case d5 => first | (simp; omega) | simp
               intro g6 c6 w6 hown6 hgrow6 hat6 hlt6
               have ha6 := (Below.refl wz.heap.size wz).alloc (Nat.le_refl _) (.cells #[.int .i64 (x)] 3)
               have hne6 : (Value.slice az nz cz).ownBlock ≠ some w2.heap.size := fun hz => by
                 rcases HRow.out.2 with ⟨h, _⟩ | ⟨g2, c3, cur, h1, h2, _⟩
                 · rw [h] at hz; simp [Value.ownBlock] at hz
                 · rw [h1] at hz; simp [Value.ownBlock] at hz; omega
               have hcl : ∀ o, w6.cell? ⟨w2.heap.size, o, none⟩ = wz.cell? ⟨w2.heap.size, o, none⟩ := fun o => (hgrow6.cell_far ⟨w2.heap.size, o, none⟩ (by simp; omega) (fun h => hne6 h.symm)).trans (ha6.cell (p := ⟨w2.heap.size, o, none⟩) hzs)
               have hfl : w6.frozen? ⟨w2.heap.size, 2, none⟩ = false := (hgrow6.frozen_far ⟨w2.heap.size, 2, none⟩ (by simp; omega) (fun h => hne6 h.symm)).trans ((ha6.frozen (p := ⟨w2.heap.size, 2, none⟩) hzs).trans mf)
               have hb6 : Below w2.heap.size w2 w6 := (((hbz.alloc hbz.size _).drew)).grown hgrow6 (by first | (simp; omega) | simp) (fun z hz => by
                 rcases HRow.out.2 with ⟨h, _⟩ | ⟨g2, c3, cur, h1, h2, _⟩
                 · rw [h] at hz; simp [Value.ownBlock] at hz
                 · rw [h1] at hz; simp [Value.ownBlock] at hz; omega)
               have hs6 : w2.heap.size < w6.heap.size := by have := hgrow6.size; simp at this; omega
               have j0 := (hcl 0).trans m0
               have j1 := (hcl 1).trans m1
               have j2 := (hcl 2).trans m2
               have j3 := (hcl 3).trans m3
               have j4 := (hcl 4).trans m4
               have j5 := (hcl 5).trans m5)
            all_goals
              go_wp2_with fail
              have HMB : Hid (MBox w2 (w6.setCell ⟨w2.heap.size, 2, none⟩ (.slice (some ⟨g6, 0, none⟩) (nz + 1) c6)) s (some ⟨g6, 0, none⟩) (nz + 1) c6) := Lib.hid ⟨hb6.setCell (Nat.le_refl _) _, by rw [World.size_setCell]; exact hs6, by simp [go_sem, j0], by simp [go_sem, j1], by simp [go_sem, j2], by simp [go_sem, j3], by simp [go_sem, j4], by simp [go_sem, j5], by rw [World.frozen?_setCell]; exact hfl⟩
              have HRW := Lib.hid (ownsRow_setCell_below hown6 (a := ⟨w2.heap.size, 2, none⟩) (Nat.lt_succ_self _) (.slice (some ⟨g6, 0, none⟩) (nz + 1) c6))
              have HLL : Hid (nz + 1 = (Lz ++ [x]).length ∧ csz ++ [.int .i64 x] = ivs (Lz ++ [x])) := Lib.hid (by rw [ivs_app, List.length_append, HLz.out.1, HLz.out.2]; exact ⟨rfl, rfl⟩)
              go_roundw
              case rel => exact ⟨k + 1, Lz ++ [x], _, c6, true, by omega, by go_num, rfl, by rw [← HLL.out.1]; exact HMB.out, Lib.hid (by rw [← HLL.out.1, ← HLL.out.2]; exact HRW.out), HML.out⟩
              case measure => simp [intOf]; omega
          | false =>
            rcases Int.lt_trichotomy x (x0 % 200) with hx | hx | hx
            · have HML := Lib.hid (HMS.out Lz (by omega) (fun _ h => h) HMLz.out.2.2)
              obtain ⟨nz, hnz⟩ : ∃ nz, Lz.length = nz := ⟨_, rfl⟩
              obtain ⟨csz, hcsz⟩ : ∃ csz, ivs Lz = csz := ⟨_, rfl⟩
              have HLz : Hid (Lz.length = nz ∧ ivs Lz = csz) := Lib.hid ⟨hnz, hcsz⟩
              rw [hnz] at m2 HRow hL2
              rw [hcsz] at HRow
              clear hnz hcsz HMS HMLz
              go_wp2_with fail
              have qm : ∀ o O, (wz.alloc O).cell? ⟨w2.heap.size, o, none⟩ = wz.cell? ⟨w2.heap.size, o, none⟩ := fun o O => ((Below.refl wz.heap.size wz).alloc (Nat.le_refl _) O).cell (p := ⟨w2.heap.size, o, none⟩) hzs
              go_region_law
                (refine step_append_lies _ (by rfl) _ _ _ (by rfl) (w2.heap.size + 1) 3 n0 _ 1 8 Try.underlying22 hi hz0 hz1 hz2 rfl (by decide) (.slice az nz cz) nz _ (by rfl) ((HRow.out.alloc _).drew) ⟨wz.heap.size, 0, none⟩ 1 1 [.int .i64 (x)] (by rfl) (by rfl) ?d1 ?d2 (by decide) ?d3 ?d4 ?d5 (wz.heap.size + 1) (by simp) ?_
                 case d1 =>
                   refine World.news_of_block (cs := #[.int .i64 (x)]) (t := 3) (fr := (0, 0)) ?_
                   exact heap_alloc_new wz _
                 case d2 => simp [Value.oneCell']
                 case d3 => unfold maxLen; omega
                 case d4 => omega
                 case d5 => first | (simp; omega) | simp
                 intro g6 c6 w6 hown6 hgrow6 hat6 hlt6
                 have ha6 := (Below.refl wz.heap.size wz).alloc (Nat.le_refl _) (.cells #[.int .i64 (x)] 3)
                 have hne6 : (Value.slice az nz cz).ownBlock ≠ some w2.heap.size := fun hz => by
                   rcases HRow.out.2 with ⟨h, _⟩ | ⟨g2, c3, cur, h1, h2, _⟩
                   · rw [h] at hz; simp [Value.ownBlock] at hz
                   · rw [h1] at hz; simp [Value.ownBlock] at hz; omega
                 have hcl : ∀ o, w6.cell? ⟨w2.heap.size, o, none⟩ = wz.cell? ⟨w2.heap.size, o, none⟩ := fun o => (hgrow6.cell_far ⟨w2.heap.size, o, none⟩ (by simp; omega) (fun h => hne6 h.symm)).trans (ha6.cell (p := ⟨w2.heap.size, o, none⟩) hzs)
                 have hfl : w6.frozen? ⟨w2.heap.size, 2, none⟩ = false := (hgrow6.frozen_far ⟨w2.heap.size, 2, none⟩ (by simp; omega) (fun h => hne6 h.symm)).trans ((ha6.frozen (p := ⟨w2.heap.size, 2, none⟩) hzs).trans mf)
                 have hb6 : Below w2.heap.size w2 w6 := (((hbz.alloc hbz.size _).drew)).grown hgrow6 (by first | (simp; omega) | simp) (fun z hz => by
                   rcases HRow.out.2 with ⟨h, _⟩ | ⟨g2, c3, cur, h1, h2, _⟩
                   · rw [h] at hz; simp [Value.ownBlock] at hz
                   · rw [h1] at hz; simp [Value.ownBlock] at hz; omega)
                 have hs6 : w2.heap.size < w6.heap.size := by have := hgrow6.size; simp at this; omega
                 have j0 := (hcl 0).trans m0
                 have j1 := (hcl 1).trans m1
                 have j2 := (hcl 2).trans m2
                 have j3 := (hcl 3).trans m3
                 have j4 := (hcl 4).trans m4
                 have j5 := (hcl 5).trans m5)
              all_goals
                go_wp2_with fail
                have HMB : Hid (MBox w2 (w6.setCell ⟨w2.heap.size, 2, none⟩ (.slice (some ⟨g6, 0, none⟩) (nz + 1) c6)) s (some ⟨g6, 0, none⟩) (nz + 1) c6) := Lib.hid ⟨hb6.setCell (Nat.le_refl _) _, by rw [World.size_setCell]; exact hs6, by simp [go_sem, j0], by simp [go_sem, j1], by simp [go_sem, j2], by simp [go_sem, j3], by simp [go_sem, j4], by simp [go_sem, j5], by rw [World.frozen?_setCell]; exact hfl⟩
                have HRW := Lib.hid (ownsRow_setCell_below hown6 (a := ⟨w2.heap.size, 2, none⟩) (Nat.lt_succ_self _) (.slice (some ⟨g6, 0, none⟩) (nz + 1) c6))
                have HLL : Hid (nz + 1 = (Lz ++ [x]).length ∧ csz ++ [.int .i64 x] = ivs (Lz ++ [x])) := Lib.hid (by rw [ivs_app, List.length_append, HLz.out.1, HLz.out.2]; exact ⟨rfl, rfl⟩)
                go_roundw
                case rel => exact ⟨k + 1, Lz ++ [x], _, c6, false, by omega, by go_num, rfl, by rw [← HLL.out.1]; exact HMB.out, Lib.hid (by rw [← HLL.out.1, ← HLL.out.2]; exact HRW.out), HML.out⟩
                case measure => simp [intOf]; omega
            · have hx1 : x ≤ x0 % 200 := by omega
              have hx2 : x0 % 200 ≤ x := by omega
              have HML := Lib.hid (HMS.out Lz (by omega) (fun _ h => h) HMLz.out.2.2)
              obtain ⟨nz, hnz⟩ : ∃ nz, Lz.length = nz := ⟨_, rfl⟩
              obtain ⟨csz, hcsz⟩ : ∃ csz, ivs Lz = csz := ⟨_, rfl⟩
              have HLz : Hid (Lz.length = nz ∧ ivs Lz = csz) := Lib.hid ⟨hnz, hcsz⟩
              rw [hnz] at m2 HRow hL2
              rw [hcsz] at HRow
              clear hnz hcsz HMS HMLz hx
              go_wp2_with fail
              have qm : ∀ o O, (wz.alloc O).cell? ⟨w2.heap.size, o, none⟩ = wz.cell? ⟨w2.heap.size, o, none⟩ := fun o O => ((Below.refl wz.heap.size wz).alloc (Nat.le_refl _) O).cell (p := ⟨w2.heap.size, o, none⟩) hzs
              go_region_law
                (refine step_append_lies _ (by rfl) _ _ _ (by rfl) (w2.heap.size + 1) 3 n0 _ 1 8 Try.underlying22 hi hz0 hz1 hz2 rfl (by decide) (.slice az nz cz) nz _ (by rfl) ((HRow.out.alloc _).drew) ⟨wz.heap.size, 0, none⟩ 1 1 [.int .i64 (x)] (by rfl) (by rfl) ?d1 ?d2 (by decide) ?d3 ?d4 ?d5 (wz.heap.size + 1) (by simp) ?_
                 case d1 =>
                   refine World.news_of_block (cs := #[.int .i64 (x)]) (t := 3) (fr := (0, 0)) ?_
                   exact heap_alloc_new wz _
                 case d2 => simp [Value.oneCell']
                 case d3 => unfold maxLen; omega
                 case d4 => omega
                 case d5 => first | (simp; omega) | simp
                 intro g6 c6 w6 hown6 hgrow6 hat6 hlt6
                 have ha6 := (Below.refl wz.heap.size wz).alloc (Nat.le_refl _) (.cells #[.int .i64 (x)] 3)
                 have hne6 : (Value.slice az nz cz).ownBlock ≠ some w2.heap.size := fun hz => by
                   rcases HRow.out.2 with ⟨h, _⟩ | ⟨g2, c3, cur, h1, h2, _⟩
                   · rw [h] at hz; simp [Value.ownBlock] at hz
                   · rw [h1] at hz; simp [Value.ownBlock] at hz; omega
                 have hcl : ∀ o, w6.cell? ⟨w2.heap.size, o, none⟩ = wz.cell? ⟨w2.heap.size, o, none⟩ := fun o => (hgrow6.cell_far ⟨w2.heap.size, o, none⟩ (by simp; omega) (fun h => hne6 h.symm)).trans (ha6.cell (p := ⟨w2.heap.size, o, none⟩) hzs)
                 have hfl : w6.frozen? ⟨w2.heap.size, 2, none⟩ = false := (hgrow6.frozen_far ⟨w2.heap.size, 2, none⟩ (by simp; omega) (fun h => hne6 h.symm)).trans ((ha6.frozen (p := ⟨w2.heap.size, 2, none⟩) hzs).trans mf)
                 have hb6 : Below w2.heap.size w2 w6 := (((hbz.alloc hbz.size _).drew)).grown hgrow6 (by first | (simp; omega) | simp) (fun z hz => by
                   rcases HRow.out.2 with ⟨h, _⟩ | ⟨g2, c3, cur, h1, h2, _⟩
                   · rw [h] at hz; simp [Value.ownBlock] at hz
                   · rw [h1] at hz; simp [Value.ownBlock] at hz; omega)
                 have hs6 : w2.heap.size < w6.heap.size := by have := hgrow6.size; simp at this; omega
                 have j0 := (hcl 0).trans m0
                 have j1 := (hcl 1).trans m1
                 have j2 := (hcl 2).trans m2
                 have j3 := (hcl 3).trans m3
                 have j4 := (hcl 4).trans m4
                 have j5 := (hcl 5).trans m5)
              all_goals
                go_wp2_with fail
                have HMB : Hid (MBox w2 (w6.setCell ⟨w2.heap.size, 2, none⟩ (.slice (some ⟨g6, 0, none⟩) (nz + 1) c6)) s (some ⟨g6, 0, none⟩) (nz + 1) c6) := Lib.hid ⟨hb6.setCell (Nat.le_refl _) _, by rw [World.size_setCell]; exact hs6, by simp [go_sem, j0], by simp [go_sem, j1], by simp [go_sem, j2], by simp [go_sem, j3], by simp [go_sem, j4], by simp [go_sem, j5], by rw [World.frozen?_setCell]; exact hfl⟩
                have HRW := Lib.hid (ownsRow_setCell_below hown6 (a := ⟨w2.heap.size, 2, none⟩) (Nat.lt_succ_self _) (.slice (some ⟨g6, 0, none⟩) (nz + 1) c6))
                have HLL : Hid (nz + 1 = (Lz ++ [x]).length ∧ csz ++ [.int .i64 x] = ivs (Lz ++ [x])) := Lib.hid (by rw [ivs_app, List.length_append, HLz.out.1, HLz.out.2]; exact ⟨rfl, rfl⟩)
                go_roundw
                case rel => exact ⟨k + 1, Lz ++ [x], _, c6, true, by omega, by go_num, rfl, by rw [← HLL.out.1]; exact HMB.out, Lib.hid (by rw [← HLL.out.1, ← HLL.out.2]; exact HRW.out), HML.out⟩
                case measure => simp [intOf]; omega
            · have HML := Lib.hid (HMS.out (Lz ++ [x0 % 200]) (by simp) (fun y h => List.mem_append_left _ h) (fun y h => by
                rw [List.mem_append] at h
                rcases h with h | h
                · exact HMLz.out.2.2 y h
                · simp at h; omega))
              obtain ⟨nz, hnz⟩ : ∃ nz, Lz.length = nz := ⟨_, rfl⟩
              obtain ⟨csz, hcsz⟩ : ∃ csz, ivs Lz = csz := ⟨_, rfl⟩
              have HLz : Hid (Lz.length = nz ∧ ivs Lz = csz) := Lib.hid ⟨hnz, hcsz⟩
              rw [hnz] at m2 HRow hL2
              rw [hcsz] at HRow
              clear hnz hcsz HMS HMLz
              have hown := Lib.hid (HRow.out.alloc (.cells #[.int .i64 (x0 % 200)] 3))
              have qm : ∀ o O, (wz.alloc O).cell? ⟨w2.heap.size, o, none⟩ = wz.cell? ⟨w2.heap.size, o, none⟩ := fun o O => ((Below.refl wz.heap.size wz).alloc (Nat.le_refl _) O).cell (p := ⟨w2.heap.size, o, none⟩) hzs
              have hsm : ∀ O, (wz.alloc O).frozen? ⟨w2.heap.size, 2, none⟩ = wz.frozen? ⟨w2.heap.size, 2, none⟩ := fun O => ((Below.refl wz.heap.size wz).alloc (Nat.le_refl _) O).frozen (p := ⟨w2.heap.size, 2, none⟩) hzs
              go_wp2_with (first | (at_builtin; go_loud (refine wpList_append_lies _ rfl _ _ 22 rfl (w2.heap.size + 1) 3 n0 _ 1 8 Try.underlying22 hi hz0 hz1 hz2 rfl (by decide) (.slice az nz cz) nz _ (by rfl) hown.out ⟨wz.heap.size, 0, none⟩ 1 1 [.int .i64 (x0 % 200)] (by rfl) (by rfl) ?d1 ?d2 (by decide) ?d3 ?d4 ?d5 _ rfl ?_)))
              case d1 =>
                refine World.news_of_block (cs := #[.int .i64 (x0 % 200)]) (t := 3) (fr := (0, 0)) ?_
                exact heap_alloc_new _ _
              case d2 => simp [Value.oneCell']
              case d3 => unfold maxLen; omega
              case d4 => omega
              case d5 => first | (simp; omega) | simp
              intro g6 c6 w6 hown6 hgrow6 hat6 hlt6
              have ha6 := (Below.refl wz.heap.size wz).alloc (Nat.le_refl _) (.cells #[.int .i64 (x0 % 200)] 3)
              have hne6 : (Value.slice az nz cz).ownBlock ≠ some w2.heap.size := fun hz => by
                rcases HRow.out.2 with ⟨h, _⟩ | ⟨g2, c3, cur, h1, h2, _⟩
                · rw [h] at hz; simp [Value.ownBlock] at hz
                · rw [h1] at hz; simp [Value.ownBlock] at hz; omega
              have hcl : ∀ o, w6.cell? ⟨w2.heap.size, o, none⟩ = wz.cell? ⟨w2.heap.size, o, none⟩ := fun o => (hgrow6.cell_far ⟨w2.heap.size, o, none⟩ (by simp; omega) (fun h => hne6 h.symm)).trans (ha6.cell (p := ⟨w2.heap.size, o, none⟩) hzs)
              have hfl : w6.frozen? ⟨w2.heap.size, 2, none⟩ = false := (hgrow6.frozen_far ⟨w2.heap.size, 2, none⟩ (by simp; omega) (fun h => hne6 h.symm)).trans ((ha6.frozen (p := ⟨w2.heap.size, 2, none⟩) hzs).trans mf)
              have hb6 : Below w2.heap.size w2 w6 := ((hbz.alloc hbz.size _)).grown hgrow6 (by first | (simp; omega) | simp) (fun z hz => by
                rcases HRow.out.2 with ⟨h, _⟩ | ⟨g2, c3, cur, h1, h2, _⟩
                · rw [h] at hz; simp [Value.ownBlock] at hz
                · rw [h1] at hz; simp [Value.ownBlock] at hz; omega)
              have hs6 : w2.heap.size < w6.heap.size := by have := hgrow6.size; simp at this; omega
              have j0 := (hcl 0).trans m0
              have j1 := (hcl 1).trans m1
              have j2 := (hcl 2).trans m2
              have j3 := (hcl 3).trans m3
              have j4 := (hcl 4).trans m4
              have j5 := (hcl 5).trans m5
              go_wp2_with fail
              have HMB : Hid (MBox w2 (w6.setCell ⟨w2.heap.size, 2, none⟩ (.slice (some ⟨g6, 0, none⟩) (nz + 1) c6)) s (some ⟨g6, 0, none⟩) (nz + 1) c6) := Lib.hid ⟨hb6.setCell (Nat.le_refl _) _, by rw [World.size_setCell]; exact hs6, by simp [go_sem, j0], by simp [go_sem, j1], by simp [go_sem, j2], by simp [go_sem, j3], by simp [go_sem, j4], by simp [go_sem, j5], by rw [World.frozen?_setCell]; exact hfl⟩
              have HRW := Lib.hid (ownsRow_setCell_below hown6 (a := ⟨w2.heap.size, 2, none⟩) (Nat.lt_succ_self _) (.slice (some ⟨g6, 0, none⟩) (nz + 1) c6))
              obtain ⟨wy, hwy⟩ : ∃ wy, w6.setCell ⟨w2.heap.size, 2, none⟩ (.slice (some ⟨g6, 0, none⟩) (nz + 1) c6) = wy := ⟨_, rfl⟩
              rw [hwy] at HMB HRW ⊢
              have HLy0 : Hid ((Lz ++ [x0 % 200]).length = nz + 1 ∧ ivs (Lz ++ [x0 % 200]) = csz ++ [.int .i64 (x0 % 200)]) := Lib.hid (by rw [ivs_app, List.length_append, HLz.out.1, HLz.out.2]; exact ⟨rfl, rfl⟩)
              obtain ⟨Ly, hLy⟩ : ∃ Ly, Lz ++ [x0 % 200] = Ly := ⟨_, rfl⟩
              rw [hLy] at HLy0 HML
              obtain ⟨ay, hay⟩ : ∃ a, (some ⟨g6, 0, none⟩ : Option Addr) = a := ⟨_, rfl⟩
              obtain ⟨ny, hny⟩ : ∃ n, nz + 1 = n := ⟨_, rfl⟩
              obtain ⟨csy, hcsy⟩ : ∃ cs, csz ++ [Value.int .i64 (x0 % 200)] = cs := ⟨_, rfl⟩
              rw [hay, hny] at HMB HRW
              rw [hcsy] at HRW HLy0
              rw [hny] at HLy0
              have HLy := HLy0
              have HRowy := HRW
              clear HLy0 HRW hLy hay hcsy hwy HLz HRow c0 hb6 hs6 j0 j1 j2 j3 j4 j5 hcl hfl hne6 ha6 hown hown6 hgrow6 hat6 hlt6 hbz hzs m0 m1 m2 m3 m4 m5 mf p0 p1 p2 p3 p4 p5 hbz0 qm hsm HBz
              obtain ⟨hby, hys, l0, l1, l2, l3, l4, l5, lf⟩ := HMB.out
              have c0 := cell_below C0.out hby
              have p2 := cell_below P2.out hby
              have hLy2 : ny ≤ 2 * k + 1 := by omega
              clear HMB hny
              have qm : ∀ o O, (wy.alloc O).cell? ⟨w2.heap.size, o, none⟩ = wy.cell? ⟨w2.heap.size, o, none⟩ := fun o O => ((Below.refl wy.heap.size wy).alloc (Nat.le_refl _) O).cell (p := ⟨w2.heap.size, o, none⟩) hys
              go_region_law
                (refine step_append_lies _ (by rfl) _ _ _ (by rfl) (w2.heap.size + 1) 3 n0 _ 1 8 Try.underlying22 hi hz0 hz1 hz2 rfl (by decide) (.slice ay ny c6) ny _ (by rfl) ((HRowy.out.alloc _).drew) ⟨wy.heap.size, 0, none⟩ 1 1 [.int .i64 (x)] (by rfl) (by rfl) ?d1 ?d2 (by decide) ?d3 ?d4 ?d5 (wy.heap.size + 1) (by simp) ?_
                 case d1 =>
                   refine World.news_of_block (cs := #[.int .i64 (x)]) (t := 3) (fr := (0, 0)) ?_
                   exact heap_alloc_new wy _
                 case d2 => simp [Value.oneCell']
                 case d3 => unfold maxLen; omega
                 case d4 => omega
                 case d5 => first | (simp; omega) | simp
                 intro g8 c8 w8 hown8 hgrow8 hat8 hlt8
                 have ha6 := (Below.refl wy.heap.size wy).alloc (Nat.le_refl _) (.cells #[.int .i64 (x)] 3)
                 have hne6 : (Value.slice ay ny c6).ownBlock ≠ some w2.heap.size := fun hz => by
                   rcases HRowy.out.2 with ⟨h, _⟩ | ⟨g2, c3, cur, h1, h2, _⟩
                   · rw [h] at hz; simp [Value.ownBlock] at hz
                   · rw [h1] at hz; simp [Value.ownBlock] at hz; omega
                 have hcl : ∀ o, w8.cell? ⟨w2.heap.size, o, none⟩ = wy.cell? ⟨w2.heap.size, o, none⟩ := fun o => (hgrow8.cell_far ⟨w2.heap.size, o, none⟩ (by simp; omega) (fun h => hne6 h.symm)).trans (ha6.cell (p := ⟨w2.heap.size, o, none⟩) hys)
                 have hfl : w8.frozen? ⟨w2.heap.size, 2, none⟩ = false := (hgrow8.frozen_far ⟨w2.heap.size, 2, none⟩ (by simp; omega) (fun h => hne6 h.symm)).trans ((ha6.frozen (p := ⟨w2.heap.size, 2, none⟩) hys).trans lf)
                 have hb6 : Below w2.heap.size w2 w8 := (((hby.alloc hby.size _).drew)).grown hgrow8 (by first | (simp; omega) | simp) (fun z hz => by
                   rcases HRowy.out.2 with ⟨h, _⟩ | ⟨g2, c3, cur, h1, h2, _⟩
                   · rw [h] at hz; simp [Value.ownBlock] at hz
                   · rw [h1] at hz; simp [Value.ownBlock] at hz; omega)
                 have hs6 : w2.heap.size < w8.heap.size := by have := hgrow8.size; simp at this; omega
                 have j0 := (hcl 0).trans l0
                 have j1 := (hcl 1).trans l1
                 have j2 := (hcl 2).trans l2
                 have j3 := (hcl 3).trans l3
                 have j4 := (hcl 4).trans l4
                 have j5 := (hcl 5).trans l5)
              all_goals
                go_wp2_with fail
                have HMB : Hid (MBox w2 (w8.setCell ⟨w2.heap.size, 2, none⟩ (.slice (some ⟨g8, 0, none⟩) (ny + 1) c8)) s (some ⟨g8, 0, none⟩) (ny + 1) c8) := Lib.hid ⟨hb6.setCell (Nat.le_refl _) _, by rw [World.size_setCell]; exact hs6, by simp [go_sem, j0], by simp [go_sem, j1], by simp [go_sem, j2], by simp [go_sem, j3], by simp [go_sem, j4], by simp [go_sem, j5], by rw [World.frozen?_setCell]; exact hfl⟩
                have HRW := Lib.hid (ownsRow_setCell_below hown8 (a := ⟨w2.heap.size, 2, none⟩) (Nat.lt_succ_self _) (.slice (some ⟨g8, 0, none⟩) (ny + 1) c8))
                have HLL : Hid (ny + 1 = (Ly ++ [x]).length ∧ csy ++ [.int .i64 x] = ivs (Ly ++ [x])) := Lib.hid (by rw [ivs_app, List.length_append, HLy.out.1, HLy.out.2]; exact ⟨rfl, rfl⟩)
                go_roundw
                case rel => exact ⟨k + 1, Ly ++ [x], _, c8, true, by omega, by go_num, rfl, by rw [← HLL.out.1]; exact HMB.out, Lib.hid (by rw [← HLL.out.1, ← HLL.out.2]; exact HRW.out), HML.out⟩
                case measure => simp [intOf]; omega
        · obtain rfl : k = s.H.length := by omega
          have HSubz : Hid (HolSub s.H Lz) := Lib.hid (holSub_of HMLz.out.2.1)
          have HBd := Lib.hid HMLz.out.2.2
          obtain ⟨_, p0, p1, p2, p3, p4, p5⟩ := HBz.out
          cases b with
          | true =>
            have HIF := Lib.hid (ints_ivs HRow.out (by omega) (fun y hy => by have := HBd.out y hy; unfold I64; omega))
            have HMF : Hid (MBox w2 wr s az Lz.length cz) := Lib.hid ⟨hbz, hzs, m0, m1, m2, m3, m4, m5, mf⟩
            have HSub := HSubz
            clear HC HLH HHB hML HMLz HRow HSubz HBd hL2 hlt hk HBz p0 p1 p2 p3 p4 p5
            clear hbz hzs m0 m1 m2 m3 m4 m5 mf
            obtain ⟨wf, rfl⟩ : ∃ wf : World, wf = wr := ⟨_, rfl⟩
            obtain ⟨Lf, rfl⟩ : ∃ Lf : List Int, Lf = Lz := ⟨_, rfl⟩
            obtain ⟨af, rfl⟩ : ∃ af : Option Addr, af = az := ⟨_, rfl⟩
            obtain ⟨cf, rfl⟩ : ∃ cf : Nat, cf = cz := ⟨_, rfl⟩
            obtain ⟨hbf, hsf, m0, m1, m2, m3, m4, m5, -⟩ := HMF.out
            have hwf : Below w.heap.size w wf := hb.trans (hbf.mono hb.size)
            obtain ⟨-, p0, p1, p2, p3, p4, p5⟩ := HX0.out.on hbf
            have q0 := cell_below q0 hbf
            have q1 := cell_below q1 hbf
            have q2 := cell_below q2 hbf
            have q3 := cell_below q3 hbf
            have q4 := cell_below q4 hbf
            have HIs : Hid (∀ W, Below wf.heap.size wf W → ShS W s) := Lib.hid fun W hW => HI.out.below (hwf.trans (hW.mono hwf.size))
            obtain ⟨s2, hs2⟩ : ∃ s2 : Sh, (⟨s.O, s.C, af, Lf, cf, s.M, s.aS, s.S, s.cS, s.aJ, s.J, s.cJ⟩ : Sh) = s2 := ⟨_, rfl⟩
            have HI2 : Hid (∀ W, Below wf.heap.size wf W → ShS W s2) := Lib.hid fun W hW => by rw [← hs2]; exact ⟨HIF.out.below hW, (HIs.out W hW).2⟩
            have HRV2 : Hid (∀ W, Below wf.heap.size wf W → Calls Try.prog 20 #[.agg #[.int .i64 s.O, .int .i64 s.C, .slice af Lf.length cf, .int .i64 s.M, .slice s.aS s.S.length s.cS, .slice s.aJ s.J.length s.cJ]] W fun e w' => e = .returned (.bool (shB s2)) ∧ Below W.heap.size W w') := Lib.hid fun W hW => by
              have := refValid_sh s2 W (HI2.out W hW)
              rw [← hs2] at this ⊢
              exact this
            have hW := Below.refl wf.heap.size wf
            have HV0 := HVs.out
            by_cases hV2 : ShOk s2
            · rw [shB_t hV2] at HRV2
              have d0 : s.C - s.O ≠ 0 := by omega
              have d1 : 0 ≤ x2 % (s.C - s.O) := Int.emod_nonneg _ d0
              have d2 : x2 % (s.C - s.O) < s.C - s.O := Int.emod_lt_of_pos _ (by omega)
              have eO : s2.O = s.O := by rw [← hs2]
              have eC : s2.C = s.C := by rw [← hs2]
              have eM : s2.M = s.M := by rw [← hs2]
              have eJ : s2.J = s.J := by rw [← hs2]
              have eH : s2.H = Lf := by rw [← hs2]
              have hsub : HolSub s.H s2.H := by rw [eH]; exact HSub.out
              obtain ⟨mm, hmm⟩ : ∃ mm : Nat, (mm : Int) = x2 % 5000 := ⟨(x2 % 5000).toNat, by omega⟩
              have HN1 := Lib.hid (fun W (hW : Below wf.heap.size wf W) => next_ok s x1 (1 + x2 % (s.C - s.O)) W (HIs.out W hW) HV0 a2 (by omega) (by omega) (by omega))
              have HN2 : Hid (∀ W, Below wf.heap.size wf W → Calls Try.prog 22 #[.agg #[.int .i64 s.O, .int .i64 s.C, .slice af Lf.length cf, .int .i64 s.M, .slice s.aS s.S.length s.cS, .slice s.aJ s.J.length s.cJ], .int .i64 x1, .int .i64 (1 + x2 % (s.C - s.O))] W fun e w' => e = .returned (.tuple #[.int .i64 (nextV s2.O s2.C s2.H x1 (1 + x2 % (s.C - s.O))), .int .i64 0]) ∧ Below W.heap.size W w') := Lib.hid fun W hW => by
                have := next_ok s2 x1 (1 + x2 % (s.C - s.O)) W (HI2.out W hW) hV2 a2 (by omega) (by omega) (by rw [eO, eC]; omega)
                rw [← hs2] at this ⊢
                exact this
              have HA1 := Lib.hid (fun W (hW : Below wf.heap.size wf W) => after_ok s x1 mm W (HIs.out W hW) HV0 a2 (by omega) (by omega))
              have HA2 : Hid (∀ W, Below wf.heap.size wf W → Calls Try.prog 24 #[.agg #[.int .i64 s.O, .int .i64 s.C, .slice af Lf.length cf, .int .i64 s.M, .slice s.aS s.S.length s.cS, .slice s.aJ s.J.length s.cJ], .int .i64 x1, .int .i64 mm] W fun e w' => e = .returned (.tuple #[.int .i64 (aftV s2.O s2.C s2.H x1 mm), .int .i64 0]) ∧ Below W.heap.size W w') := Lib.hid fun W hW => by
                have := after_ok s2 x1 mm W (HI2.out W hW) hV2 a2 (by omega) (by omega)
                rw [← hs2] at this ⊢
                exact this
              have g12 := nextV_sub hsub eO eC HV0 hV2 a2 (show 1 + x2 % (s.C - s.O) ≤ s.C - s.O by omega)
              have g34 := aftV_sub hsub eO eC HV0 hV2 x1 mm
              rw [hmm] at HA1 HA2 g34
              have hM := HV0.2.2.1.1
              obtain ⟨mi, hmi⟩ : ∃ mi : Int, x4 % s.M = mi := ⟨_, rfl⟩
              have mi0 : 0 ≤ mi := by rw [← hmi]; exact Int.emod_nonneg _ (by omega)
              have mi1 : mi < s.M := by rw [← hmi]; exact Int.emod_lt_of_pos _ (by omega)
              have htm : x4.tmod s.M = mi := by rw [← hmi, Int.tmod_eq_emod_of_nonneg a8]
              have HL1 := Lib.hid (fun W (hW : Below wf.heap.size wf W) => load_ok s mi W (HIs.out W hW) HV0 mi0 mi1)
              have HL2 : Hid (∀ W, Below wf.heap.size wf W → Calls Try.prog 29 #[.agg #[.int .i64 s.O, .int .i64 s.C, .slice af Lf.length cf, .int .i64 s.M, .slice s.aS s.S.length s.cS, .slice s.aJ s.J.length s.cJ], .int .i64 mi] W fun e w' => e = .returned (.tuple #[.int .i64 (loadV s2 mi), .int .i64 0]) ∧ Below W.heap.size W w') := Lib.hid fun W hW => by
                have := load_ok s2 mi W (HI2.out W hW) hV2 mi0 (by rw [eM]; exact mi1)
                rw [← hs2] at this ⊢
                exact this
              have g56 := loadV_sub hsub eO eC eJ HV0 hV2 mi
              have h12 := HV0.2.2.2.1
              have wm : IntKind.i64.wrap mi = mi := IntWalk.i64_in _ (by omega)
              have wx4 : IntKind.i64.wrap x4 = x4 := IntWalk.i64_in _ (by omega)
              have wx3 : IntKind.i64.wrap x3 = x3 := IntWalk.i64_in _ (by omega)
              have nM : s.M ≠ 0 := by omega
              generalize nextV s.O s.C s.H x1 (1 + x2 % (s.C - s.O)) = n1 at *
              generalize nextV s2.O s2.C s2.H x1 (1 + x2 % (s.C - s.O)) = n2 at *
              generalize aftV s.O s.C s.H x1 (x2 % 5000) = e1 at *
              generalize aftV s2.O s2.C s2.H x1 (x2 % 5000) = e2 at *
              generalize loadV s mi = u1 at *
              generalize loadV s2 mi = u2 at *
              by_cases hJ0 : s.J.length = 0
              · have hJz : ¬ (0 : Int) < s.J.length := by omega
                clear hV2 HV0 HVs hs2 eO eC eM eJ eH hsub hmm hmi HI HIs HI2 HIF HSub HMF hbf hsf hM h12 hJ0
                go_wp2_with fail
                refine (HRV2.out _ hW).mono ?_
                rintro e y1 ⟨rfl, hc⟩
                have hW := hW.trans (hc.mono hW.size)
                have p0 := cell_below p0 hc
                have p1 := cell_below p1 hc
                have p2 := cell_below p2 hc
                have p3 := cell_below p3 hc
                have p4 := cell_below p4 hc
                have p5 := cell_below p5 hc
                have m0 := cell_below m0 hc
                have m1 := cell_below m1 hc
                have m2 := cell_below m2 hc
                have m3 := cell_below m3 hc
                have m4 := cell_below m4 hc
                have m5 := cell_below m5 hc
                have q0 := cell_below q0 hc
                have q1 := cell_below q1 hc
                have q2 := cell_below q2 hc
                have q3 := cell_below q3 hc
                have q4 := cell_below q4 hc
                clear hc
                go_wp2_with fail
                refine (HN1.out _ hW).mono ?_
                rintro e y2 ⟨rfl, hc⟩
                have hW := hW.trans (hc.mono hW.size)
                have p0 := cell_below p0 hc
                have p1 := cell_below p1 hc
                have p2 := cell_below p2 hc
                have p3 := cell_below p3 hc
                have p4 := cell_below p4 hc
                have p5 := cell_below p5 hc
                have m0 := cell_below m0 hc
                have m1 := cell_below m1 hc
                have m2 := cell_below m2 hc
                have m3 := cell_below m3 hc
                have m4 := cell_below m4 hc
                have m5 := cell_below m5 hc
                have q0 := cell_below q0 hc
                have q1 := cell_below q1 hc
                have q2 := cell_below q2 hc
                have q3 := cell_below q3 hc
                have q4 := cell_below q4 hc
                clear hc
                go_wp2_with fail
                refine (HN2.out _ hW).mono ?_
                rintro e y3 ⟨rfl, hc⟩
                have hW := hW.trans (hc.mono hW.size)
                have p0 := cell_below p0 hc
                have p1 := cell_below p1 hc
                have p2 := cell_below p2 hc
                have p3 := cell_below p3 hc
                have p4 := cell_below p4 hc
                have p5 := cell_below p5 hc
                have m0 := cell_below m0 hc
                have m1 := cell_below m1 hc
                have m2 := cell_below m2 hc
                have m3 := cell_below m3 hc
                have m4 := cell_below m4 hc
                have m5 := cell_below m5 hc
                have q0 := cell_below q0 hc
                have q1 := cell_below q1 hc
                have q2 := cell_below q2 hc
                have q3 := cell_below q3 hc
                have q4 := cell_below q4 hc
                clear hc
                go_wp2_with fail
                refine (HA1.out _ hW).mono ?_
                rintro e y4 ⟨rfl, hc⟩
                have hW := hW.trans (hc.mono hW.size)
                have p0 := cell_below p0 hc
                have p1 := cell_below p1 hc
                have p2 := cell_below p2 hc
                have p3 := cell_below p3 hc
                have p4 := cell_below p4 hc
                have p5 := cell_below p5 hc
                have m0 := cell_below m0 hc
                have m1 := cell_below m1 hc
                have m2 := cell_below m2 hc
                have m3 := cell_below m3 hc
                have m4 := cell_below m4 hc
                have m5 := cell_below m5 hc
                have q0 := cell_below q0 hc
                have q1 := cell_below q1 hc
                have q2 := cell_below q2 hc
                have q3 := cell_below q3 hc
                have q4 := cell_below q4 hc
                clear hc
                go_wp2_with fail
                refine (HA2.out _ hW).mono ?_
                rintro e y5 ⟨rfl, hc⟩
                have hW := hW.trans (hc.mono hW.size)
                have p0 := cell_below p0 hc
                have p1 := cell_below p1 hc
                have p2 := cell_below p2 hc
                have p3 := cell_below p3 hc
                have p4 := cell_below p4 hc
                have p5 := cell_below p5 hc
                have m0 := cell_below m0 hc
                have m1 := cell_below m1 hc
                have m2 := cell_below m2 hc
                have m3 := cell_below m3 hc
                have m4 := cell_below m4 hc
                have m5 := cell_below m5 hc
                have q0 := cell_below q0 hc
                have q1 := cell_below q1 hc
                have q2 := cell_below q2 hc
                have q3 := cell_below q3 hc
                have q4 := cell_below q4 hc
                clear hc
                go_wp2_with fail
                have z0 := block_lt p0
                have z1 := block_lt q3
                have z2 := block_lt m0
                clear q0 q1 q2
                go_region_held3 (fun w' => w'.cell? ⟨w.heap.size, 0, none⟩ = some (.int .i64 s.O) ∧ w'.cell? ⟨w.heap.size, 1, none⟩ = some (.int .i64 s.C) ∧ w'.cell? ⟨w.heap.size, 2, none⟩ = some (.slice s.aH s.H.length s.cH) ∧ w'.cell? ⟨w.heap.size, 3, none⟩ = some (.int .i64 s.M) ∧ w'.cell? ⟨w.heap.size, 4, none⟩ = some (.slice s.aS s.S.length s.cS) ∧ w'.cell? ⟨w.heap.size, 5, none⟩ = some (.slice s.aJ s.J.length s.cJ) ∧ w'.cell? ⟨w2.heap.size, 0, none⟩ = some (.int .i64 s.O) ∧ w'.cell? ⟨w2.heap.size, 1, none⟩ = some (.int .i64 s.C) ∧ w'.cell? ⟨w2.heap.size, 2, none⟩ = some (.slice af Lf.length cf) ∧ w'.cell? ⟨w2.heap.size, 3, none⟩ = some (.int .i64 s.M) ∧ w'.cell? ⟨w2.heap.size, 4, none⟩ = some (.slice s.aS s.S.length s.cS) ∧ w'.cell? ⟨w2.heap.size, 5, none⟩ = some (.slice s.aJ s.J.length s.cJ) ∧ w'.cell? ⟨w.heap.size + 1, 3, none⟩ = some (.int .u8 x3) ∧ w'.cell? ⟨w.heap.size + 1, 4, none⟩ = some (.int .u8 x4)) (go_keep)
                  ((go_at_call 29
                    refine (HL1.out _ (by first | exact hW.drew | exact hW | exact below_drewN hW _)).mono ?_
                    rintro E w9 ⟨rfl, hb9⟩
                    have p0 := (hb9.cell (p := ⟨w.heap.size, 0, none⟩) z0).trans p0
                    have p1 := (hb9.cell (p := ⟨w.heap.size, 1, none⟩) z0).trans p1
                    have p2 := (hb9.cell (p := ⟨w.heap.size, 2, none⟩) z0).trans p2
                    have p3 := (hb9.cell (p := ⟨w.heap.size, 3, none⟩) z0).trans p3
                    have p4 := (hb9.cell (p := ⟨w.heap.size, 4, none⟩) z0).trans p4
                    have p5 := (hb9.cell (p := ⟨w.heap.size, 5, none⟩) z0).trans p5
                    have m0 := (hb9.cell (p := ⟨w2.heap.size, 0, none⟩) z2).trans m0
                    have m1 := (hb9.cell (p := ⟨w2.heap.size, 1, none⟩) z2).trans m1
                    have m2 := (hb9.cell (p := ⟨w2.heap.size, 2, none⟩) z2).trans m2
                    have m3 := (hb9.cell (p := ⟨w2.heap.size, 3, none⟩) z2).trans m3
                    have m4 := (hb9.cell (p := ⟨w2.heap.size, 4, none⟩) z2).trans m4
                    have m5 := (hb9.cell (p := ⟨w2.heap.size, 5, none⟩) z2).trans m5
                    have q3 := (hb9.cell (p := ⟨w.heap.size + 1, 3, none⟩) z1).trans q3
                    have q4 := (hb9.cell (p := ⟨w.heap.size + 1, 4, none⟩) z1).trans q4
                    have hW : Below wf.heap.size wf w9 := by first | exact (hW.drew).trans (hb9.mono hW.size) | exact hW.trans (hb9.mono hW.size)
                    have z0 := Nat.lt_of_lt_of_le z0 hb9.size
                    have z1 := Nat.lt_of_lt_of_le z1 hb9.size
                    have z2 := Nat.lt_of_lt_of_le z2 hb9.size))
                all_goals
                  go_wp2_with fail
                  go_region_held3 (fun w' => w'.cell? ⟨w.heap.size, 0, none⟩ = some (.int .i64 s.O) ∧ w'.cell? ⟨w.heap.size, 1, none⟩ = some (.int .i64 s.C) ∧ w'.cell? ⟨w.heap.size, 2, none⟩ = some (.slice s.aH s.H.length s.cH) ∧ w'.cell? ⟨w.heap.size, 3, none⟩ = some (.int .i64 s.M) ∧ w'.cell? ⟨w.heap.size, 4, none⟩ = some (.slice s.aS s.S.length s.cS) ∧ w'.cell? ⟨w.heap.size, 5, none⟩ = some (.slice s.aJ s.J.length s.cJ) ∧ w'.cell? ⟨w2.heap.size, 0, none⟩ = some (.int .i64 s.O) ∧ w'.cell? ⟨w2.heap.size, 1, none⟩ = some (.int .i64 s.C) ∧ w'.cell? ⟨w2.heap.size, 2, none⟩ = some (.slice af Lf.length cf) ∧ w'.cell? ⟨w2.heap.size, 3, none⟩ = some (.int .i64 s.M) ∧ w'.cell? ⟨w2.heap.size, 4, none⟩ = some (.slice s.aS s.S.length s.cS) ∧ w'.cell? ⟨w2.heap.size, 5, none⟩ = some (.slice s.aJ s.J.length s.cJ) ∧ w'.cell? ⟨w.heap.size + 1, 3, none⟩ = some (.int .u8 x3) ∧ w'.cell? ⟨w.heap.size + 1, 4, none⟩ = some (.int .u8 x4)) (go_keep)
                    ((go_at_call 29
                      refine (HL2.out _ (by first | exact hW.drew | exact hW | exact below_drewN hW _)).mono ?_
                      rintro E w9 ⟨rfl, hb9⟩
                      have p0 := (hb9.cell (p := ⟨w.heap.size, 0, none⟩) z0).trans p0
                      have p1 := (hb9.cell (p := ⟨w.heap.size, 1, none⟩) z0).trans p1
                      have p2 := (hb9.cell (p := ⟨w.heap.size, 2, none⟩) z0).trans p2
                      have p3 := (hb9.cell (p := ⟨w.heap.size, 3, none⟩) z0).trans p3
                      have p4 := (hb9.cell (p := ⟨w.heap.size, 4, none⟩) z0).trans p4
                      have p5 := (hb9.cell (p := ⟨w.heap.size, 5, none⟩) z0).trans p5
                      have m0 := (hb9.cell (p := ⟨w2.heap.size, 0, none⟩) z2).trans m0
                      have m1 := (hb9.cell (p := ⟨w2.heap.size, 1, none⟩) z2).trans m1
                      have m2 := (hb9.cell (p := ⟨w2.heap.size, 2, none⟩) z2).trans m2
                      have m3 := (hb9.cell (p := ⟨w2.heap.size, 3, none⟩) z2).trans m3
                      have m4 := (hb9.cell (p := ⟨w2.heap.size, 4, none⟩) z2).trans m4
                      have m5 := (hb9.cell (p := ⟨w2.heap.size, 5, none⟩) z2).trans m5
                      have q3 := (hb9.cell (p := ⟨w.heap.size + 1, 3, none⟩) z1).trans q3
                      have q4 := (hb9.cell (p := ⟨w.heap.size + 1, 4, none⟩) z1).trans q4
                      have hW : Below wf.heap.size wf w9 := by first | exact (hW.drew).trans (hb9.mono hW.size) | exact hW.trans (hb9.mono hW.size)
                      have z0 := Nat.lt_of_lt_of_le z0 hb9.size
                      have z1 := Nat.lt_of_lt_of_le z1 hb9.size
                      have z2 := Nat.lt_of_lt_of_le z2 hb9.size))
                  all_goals
                    go_wp2_with fail
                    refine (HFi.out _).mono ?_
                    rintro e w9 ⟨rfl, hb9⟩
                    go_wp2_with fail
                    go_ret
                    exact ⟨rfl, hwf.trans ((hW.trans (hb9.mono hW.size)).mono hwf.size)⟩
              · have hJz : (0 : Int) < s.J.length := by omega
                obtain ⟨j, hj⟩ : ∃ j : Nat, x3 % (s.J.length : Int) = j := ⟨(x3 % (s.J.length : Int)).toNat, by have := Int.emod_nonneg x3 (show (s.J.length : Int) ≠ 0 by omega); omega⟩
                have j1 : j < s.J.length := by have := Int.emod_lt_of_pos x3 hJz; omega
                have htj : x3.tmod (s.J.length : Int) = j := by rw [← hj, Int.tmod_eq_emod_of_nonneg a6]
                have HC1 := Lib.hid (fun W (hW : Below wf.heap.size wf W) => chain_ok s j W (HIs.out W hW) HV0 j1)
                have HC2 : Hid (∀ W, Below wf.heap.size wf W → Calls Try.prog 28 #[.agg #[.int .i64 s.O, .int .i64 s.C, .slice af Lf.length cf, .int .i64 s.M, .slice s.aS s.S.length s.cS, .slice s.aJ s.J.length s.cJ], .int .i64 j] W fun e w' => e = .returned (.tuple #[.int .i64 (chainV s2 (gj s2.J j)), .int .i64 0]) ∧ Below W.heap.size W w') := Lib.hid fun W hW => by
                  have := chain_ok s2 j W (HI2.out W hW) hV2 (by rw [eJ]; exact j1)
                  rw [← hs2] at this ⊢
                  exact this
                have g78 := chainV_sub hsub eO eC eM HV0 hV2 (HV0.2.2.2.2 j j1)
                rw [eJ] at HC2
                have wj : IntKind.i64.wrap (j : Int) = j := IntWalk.i64_in _ (by omega)
                have nJ : (s.J.length : Int) ≠ 0 := by omega
                have nJ0 : ((s.J.length : Int) == 0) = false := by rw [beq_eq_false_iff_ne]; exact nJ
                have nJ1 : s.J ≠ [] := fun e => by rw [e] at hJz; simp at hJz
                have nJ2 : s.J.length ≠ 0 := by omega
                have nJ3 : (s.J.length == 0) = false := by rw [beq_eq_false_iff_ne]; exact nJ2
                generalize chainV s (gj s.J j) = k1 at *
                generalize chainV s2 (gj s.J j) = k2 at *
                clear hV2 HV0 HVs hs2 eO eC eM eJ eH hsub hmm hmi HI HIs HI2 HIF HSub HMF hbf hsf hM hJ0 hj
                go_wp2_with fail
                refine (HRV2.out _ hW).mono ?_
                rintro e y1 ⟨rfl, hc⟩
                have hW := hW.trans (hc.mono hW.size)
                have p0 := cell_below p0 hc
                have p1 := cell_below p1 hc
                have p2 := cell_below p2 hc
                have p3 := cell_below p3 hc
                have p4 := cell_below p4 hc
                have p5 := cell_below p5 hc
                have m0 := cell_below m0 hc
                have m1 := cell_below m1 hc
                have m2 := cell_below m2 hc
                have m3 := cell_below m3 hc
                have m4 := cell_below m4 hc
                have m5 := cell_below m5 hc
                have q0 := cell_below q0 hc
                have q1 := cell_below q1 hc
                have q2 := cell_below q2 hc
                have q3 := cell_below q3 hc
                have q4 := cell_below q4 hc
                clear hc
                go_wp2_with fail
                refine (HN1.out _ hW).mono ?_
                rintro e y2 ⟨rfl, hc⟩
                have hW := hW.trans (hc.mono hW.size)
                have p0 := cell_below p0 hc
                have p1 := cell_below p1 hc
                have p2 := cell_below p2 hc
                have p3 := cell_below p3 hc
                have p4 := cell_below p4 hc
                have p5 := cell_below p5 hc
                have m0 := cell_below m0 hc
                have m1 := cell_below m1 hc
                have m2 := cell_below m2 hc
                have m3 := cell_below m3 hc
                have m4 := cell_below m4 hc
                have m5 := cell_below m5 hc
                have q0 := cell_below q0 hc
                have q1 := cell_below q1 hc
                have q2 := cell_below q2 hc
                have q3 := cell_below q3 hc
                have q4 := cell_below q4 hc
                clear hc
                go_wp2_with fail
                refine (HN2.out _ hW).mono ?_
                rintro e y3 ⟨rfl, hc⟩
                have hW := hW.trans (hc.mono hW.size)
                have p0 := cell_below p0 hc
                have p1 := cell_below p1 hc
                have p2 := cell_below p2 hc
                have p3 := cell_below p3 hc
                have p4 := cell_below p4 hc
                have p5 := cell_below p5 hc
                have m0 := cell_below m0 hc
                have m1 := cell_below m1 hc
                have m2 := cell_below m2 hc
                have m3 := cell_below m3 hc
                have m4 := cell_below m4 hc
                have m5 := cell_below m5 hc
                have q0 := cell_below q0 hc
                have q1 := cell_below q1 hc
                have q2 := cell_below q2 hc
                have q3 := cell_below q3 hc
                have q4 := cell_below q4 hc
                clear hc
                go_wp2_with fail
                refine (HA1.out _ hW).mono ?_
                rintro e y4 ⟨rfl, hc⟩
                have hW := hW.trans (hc.mono hW.size)
                have p0 := cell_below p0 hc
                have p1 := cell_below p1 hc
                have p2 := cell_below p2 hc
                have p3 := cell_below p3 hc
                have p4 := cell_below p4 hc
                have p5 := cell_below p5 hc
                have m0 := cell_below m0 hc
                have m1 := cell_below m1 hc
                have m2 := cell_below m2 hc
                have m3 := cell_below m3 hc
                have m4 := cell_below m4 hc
                have m5 := cell_below m5 hc
                have q0 := cell_below q0 hc
                have q1 := cell_below q1 hc
                have q2 := cell_below q2 hc
                have q3 := cell_below q3 hc
                have q4 := cell_below q4 hc
                clear hc
                go_wp2_with fail
                refine (HA2.out _ hW).mono ?_
                rintro e y5 ⟨rfl, hc⟩
                have hW := hW.trans (hc.mono hW.size)
                have p0 := cell_below p0 hc
                have p1 := cell_below p1 hc
                have p2 := cell_below p2 hc
                have p3 := cell_below p3 hc
                have p4 := cell_below p4 hc
                have p5 := cell_below p5 hc
                have m0 := cell_below m0 hc
                have m1 := cell_below m1 hc
                have m2 := cell_below m2 hc
                have m3 := cell_below m3 hc
                have m4 := cell_below m4 hc
                have m5 := cell_below m5 hc
                have q0 := cell_below q0 hc
                have q1 := cell_below q1 hc
                have q2 := cell_below q2 hc
                have q3 := cell_below q3 hc
                have q4 := cell_below q4 hc
                clear hc
                go_wp2_with fail
                have z0 := block_lt p0
                have z1 := block_lt q3
                have z2 := block_lt m0
                clear q0 q1 q2
                go_region_held3 (fun w' => w'.cell? ⟨w.heap.size, 0, none⟩ = some (.int .i64 s.O) ∧ w'.cell? ⟨w.heap.size, 1, none⟩ = some (.int .i64 s.C) ∧ w'.cell? ⟨w.heap.size, 2, none⟩ = some (.slice s.aH s.H.length s.cH) ∧ w'.cell? ⟨w.heap.size, 3, none⟩ = some (.int .i64 s.M) ∧ w'.cell? ⟨w.heap.size, 4, none⟩ = some (.slice s.aS s.S.length s.cS) ∧ w'.cell? ⟨w.heap.size, 5, none⟩ = some (.slice s.aJ s.J.length s.cJ) ∧ w'.cell? ⟨w2.heap.size, 0, none⟩ = some (.int .i64 s.O) ∧ w'.cell? ⟨w2.heap.size, 1, none⟩ = some (.int .i64 s.C) ∧ w'.cell? ⟨w2.heap.size, 2, none⟩ = some (.slice af Lf.length cf) ∧ w'.cell? ⟨w2.heap.size, 3, none⟩ = some (.int .i64 s.M) ∧ w'.cell? ⟨w2.heap.size, 4, none⟩ = some (.slice s.aS s.S.length s.cS) ∧ w'.cell? ⟨w2.heap.size, 5, none⟩ = some (.slice s.aJ s.J.length s.cJ) ∧ w'.cell? ⟨w.heap.size + 1, 3, none⟩ = some (.int .u8 x3) ∧ w'.cell? ⟨w.heap.size + 1, 4, none⟩ = some (.int .u8 x4)) (go_keep)
                  ((go_at_call 28
                    refine (HC1.out _ (by first | exact hW.drew | exact hW | exact below_drewN hW _)).mono ?_
                    rintro E w9 ⟨rfl, hb9⟩
                    have p0 := (hb9.cell (p := ⟨w.heap.size, 0, none⟩) z0).trans p0
                    have p1 := (hb9.cell (p := ⟨w.heap.size, 1, none⟩) z0).trans p1
                    have p2 := (hb9.cell (p := ⟨w.heap.size, 2, none⟩) z0).trans p2
                    have p3 := (hb9.cell (p := ⟨w.heap.size, 3, none⟩) z0).trans p3
                    have p4 := (hb9.cell (p := ⟨w.heap.size, 4, none⟩) z0).trans p4
                    have p5 := (hb9.cell (p := ⟨w.heap.size, 5, none⟩) z0).trans p5
                    have m0 := (hb9.cell (p := ⟨w2.heap.size, 0, none⟩) z2).trans m0
                    have m1 := (hb9.cell (p := ⟨w2.heap.size, 1, none⟩) z2).trans m1
                    have m2 := (hb9.cell (p := ⟨w2.heap.size, 2, none⟩) z2).trans m2
                    have m3 := (hb9.cell (p := ⟨w2.heap.size, 3, none⟩) z2).trans m3
                    have m4 := (hb9.cell (p := ⟨w2.heap.size, 4, none⟩) z2).trans m4
                    have m5 := (hb9.cell (p := ⟨w2.heap.size, 5, none⟩) z2).trans m5
                    have q3 := (hb9.cell (p := ⟨w.heap.size + 1, 3, none⟩) z1).trans q3
                    have q4 := (hb9.cell (p := ⟨w.heap.size + 1, 4, none⟩) z1).trans q4
                    have hW : Below wf.heap.size wf w9 := by first | exact (hW.drew).trans (hb9.mono hW.size) | exact hW.trans (hb9.mono hW.size)
                    have z0 := Nat.lt_of_lt_of_le z0 hb9.size
                    have z1 := Nat.lt_of_lt_of_le z1 hb9.size
                    have z2 := Nat.lt_of_lt_of_le z2 hb9.size))
                all_goals
                  go_wp2_with fail
                  go_region_held3 (fun w' => w'.cell? ⟨w.heap.size, 0, none⟩ = some (.int .i64 s.O) ∧ w'.cell? ⟨w.heap.size, 1, none⟩ = some (.int .i64 s.C) ∧ w'.cell? ⟨w.heap.size, 2, none⟩ = some (.slice s.aH s.H.length s.cH) ∧ w'.cell? ⟨w.heap.size, 3, none⟩ = some (.int .i64 s.M) ∧ w'.cell? ⟨w.heap.size, 4, none⟩ = some (.slice s.aS s.S.length s.cS) ∧ w'.cell? ⟨w.heap.size, 5, none⟩ = some (.slice s.aJ s.J.length s.cJ) ∧ w'.cell? ⟨w2.heap.size, 0, none⟩ = some (.int .i64 s.O) ∧ w'.cell? ⟨w2.heap.size, 1, none⟩ = some (.int .i64 s.C) ∧ w'.cell? ⟨w2.heap.size, 2, none⟩ = some (.slice af Lf.length cf) ∧ w'.cell? ⟨w2.heap.size, 3, none⟩ = some (.int .i64 s.M) ∧ w'.cell? ⟨w2.heap.size, 4, none⟩ = some (.slice s.aS s.S.length s.cS) ∧ w'.cell? ⟨w2.heap.size, 5, none⟩ = some (.slice s.aJ s.J.length s.cJ) ∧ w'.cell? ⟨w.heap.size + 1, 3, none⟩ = some (.int .u8 x3) ∧ w'.cell? ⟨w.heap.size + 1, 4, none⟩ = some (.int .u8 x4)) (go_keep)
                    ((go_at_call 28
                      refine (HC2.out _ (by first | exact hW.drew | exact hW | exact below_drewN hW _)).mono ?_
                      rintro E w9 ⟨rfl, hb9⟩
                      have p0 := (hb9.cell (p := ⟨w.heap.size, 0, none⟩) z0).trans p0
                      have p1 := (hb9.cell (p := ⟨w.heap.size, 1, none⟩) z0).trans p1
                      have p2 := (hb9.cell (p := ⟨w.heap.size, 2, none⟩) z0).trans p2
                      have p3 := (hb9.cell (p := ⟨w.heap.size, 3, none⟩) z0).trans p3
                      have p4 := (hb9.cell (p := ⟨w.heap.size, 4, none⟩) z0).trans p4
                      have p5 := (hb9.cell (p := ⟨w.heap.size, 5, none⟩) z0).trans p5
                      have m0 := (hb9.cell (p := ⟨w2.heap.size, 0, none⟩) z2).trans m0
                      have m1 := (hb9.cell (p := ⟨w2.heap.size, 1, none⟩) z2).trans m1
                      have m2 := (hb9.cell (p := ⟨w2.heap.size, 2, none⟩) z2).trans m2
                      have m3 := (hb9.cell (p := ⟨w2.heap.size, 3, none⟩) z2).trans m3
                      have m4 := (hb9.cell (p := ⟨w2.heap.size, 4, none⟩) z2).trans m4
                      have m5 := (hb9.cell (p := ⟨w2.heap.size, 5, none⟩) z2).trans m5
                      have q3 := (hb9.cell (p := ⟨w.heap.size + 1, 3, none⟩) z1).trans q3
                      have q4 := (hb9.cell (p := ⟨w.heap.size + 1, 4, none⟩) z1).trans q4
                      have hW : Below wf.heap.size wf w9 := by first | exact (hW.drew).trans (hb9.mono hW.size) | exact hW.trans (hb9.mono hW.size)
                      have z0 := Nat.lt_of_lt_of_le z0 hb9.size
                      have z1 := Nat.lt_of_lt_of_le z1 hb9.size
                      have z2 := Nat.lt_of_lt_of_le z2 hb9.size))
                  all_goals
                    go_wp2_with fail
                    go_region_held3 (fun w' => w'.cell? ⟨w.heap.size, 0, none⟩ = some (.int .i64 s.O) ∧ w'.cell? ⟨w.heap.size, 1, none⟩ = some (.int .i64 s.C) ∧ w'.cell? ⟨w.heap.size, 2, none⟩ = some (.slice s.aH s.H.length s.cH) ∧ w'.cell? ⟨w.heap.size, 3, none⟩ = some (.int .i64 s.M) ∧ w'.cell? ⟨w.heap.size, 4, none⟩ = some (.slice s.aS s.S.length s.cS) ∧ w'.cell? ⟨w.heap.size, 5, none⟩ = some (.slice s.aJ s.J.length s.cJ) ∧ w'.cell? ⟨w2.heap.size, 0, none⟩ = some (.int .i64 s.O) ∧ w'.cell? ⟨w2.heap.size, 1, none⟩ = some (.int .i64 s.C) ∧ w'.cell? ⟨w2.heap.size, 2, none⟩ = some (.slice af Lf.length cf) ∧ w'.cell? ⟨w2.heap.size, 3, none⟩ = some (.int .i64 s.M) ∧ w'.cell? ⟨w2.heap.size, 4, none⟩ = some (.slice s.aS s.S.length s.cS) ∧ w'.cell? ⟨w2.heap.size, 5, none⟩ = some (.slice s.aJ s.J.length s.cJ) ∧ w'.cell? ⟨w.heap.size + 1, 3, none⟩ = some (.int .u8 x3) ∧ w'.cell? ⟨w.heap.size + 1, 4, none⟩ = some (.int .u8 x4)) (go_keep)
                      ((go_at_call 29
                        refine (HL1.out _ (by first | exact hW.drew | exact hW | exact below_drewN hW _)).mono ?_
                        rintro E w9 ⟨rfl, hb9⟩
                        have p0 := (hb9.cell (p := ⟨w.heap.size, 0, none⟩) z0).trans p0
                        have p1 := (hb9.cell (p := ⟨w.heap.size, 1, none⟩) z0).trans p1
                        have p2 := (hb9.cell (p := ⟨w.heap.size, 2, none⟩) z0).trans p2
                        have p3 := (hb9.cell (p := ⟨w.heap.size, 3, none⟩) z0).trans p3
                        have p4 := (hb9.cell (p := ⟨w.heap.size, 4, none⟩) z0).trans p4
                        have p5 := (hb9.cell (p := ⟨w.heap.size, 5, none⟩) z0).trans p5
                        have m0 := (hb9.cell (p := ⟨w2.heap.size, 0, none⟩) z2).trans m0
                        have m1 := (hb9.cell (p := ⟨w2.heap.size, 1, none⟩) z2).trans m1
                        have m2 := (hb9.cell (p := ⟨w2.heap.size, 2, none⟩) z2).trans m2
                        have m3 := (hb9.cell (p := ⟨w2.heap.size, 3, none⟩) z2).trans m3
                        have m4 := (hb9.cell (p := ⟨w2.heap.size, 4, none⟩) z2).trans m4
                        have m5 := (hb9.cell (p := ⟨w2.heap.size, 5, none⟩) z2).trans m5
                        have q3 := (hb9.cell (p := ⟨w.heap.size + 1, 3, none⟩) z1).trans q3
                        have q4 := (hb9.cell (p := ⟨w.heap.size + 1, 4, none⟩) z1).trans q4
                        have hW : Below wf.heap.size wf w9 := by first | exact (hW.drew).trans (hb9.mono hW.size) | exact hW.trans (hb9.mono hW.size)
                        have z0 := Nat.lt_of_lt_of_le z0 hb9.size
                        have z1 := Nat.lt_of_lt_of_le z1 hb9.size
                        have z2 := Nat.lt_of_lt_of_le z2 hb9.size))
                    all_goals
                      go_wp2_with fail
                      go_region_held3 (fun w' => w'.cell? ⟨w.heap.size, 0, none⟩ = some (.int .i64 s.O) ∧ w'.cell? ⟨w.heap.size, 1, none⟩ = some (.int .i64 s.C) ∧ w'.cell? ⟨w.heap.size, 2, none⟩ = some (.slice s.aH s.H.length s.cH) ∧ w'.cell? ⟨w.heap.size, 3, none⟩ = some (.int .i64 s.M) ∧ w'.cell? ⟨w.heap.size, 4, none⟩ = some (.slice s.aS s.S.length s.cS) ∧ w'.cell? ⟨w.heap.size, 5, none⟩ = some (.slice s.aJ s.J.length s.cJ) ∧ w'.cell? ⟨w2.heap.size, 0, none⟩ = some (.int .i64 s.O) ∧ w'.cell? ⟨w2.heap.size, 1, none⟩ = some (.int .i64 s.C) ∧ w'.cell? ⟨w2.heap.size, 2, none⟩ = some (.slice af Lf.length cf) ∧ w'.cell? ⟨w2.heap.size, 3, none⟩ = some (.int .i64 s.M) ∧ w'.cell? ⟨w2.heap.size, 4, none⟩ = some (.slice s.aS s.S.length s.cS) ∧ w'.cell? ⟨w2.heap.size, 5, none⟩ = some (.slice s.aJ s.J.length s.cJ) ∧ w'.cell? ⟨w.heap.size + 1, 3, none⟩ = some (.int .u8 x3) ∧ w'.cell? ⟨w.heap.size + 1, 4, none⟩ = some (.int .u8 x4)) (go_keep)
                        ((go_at_call 29
                          refine (HL2.out _ (by first | exact hW.drew | exact hW | exact below_drewN hW _)).mono ?_
                          rintro E w9 ⟨rfl, hb9⟩
                          have p0 := (hb9.cell (p := ⟨w.heap.size, 0, none⟩) z0).trans p0
                          have p1 := (hb9.cell (p := ⟨w.heap.size, 1, none⟩) z0).trans p1
                          have p2 := (hb9.cell (p := ⟨w.heap.size, 2, none⟩) z0).trans p2
                          have p3 := (hb9.cell (p := ⟨w.heap.size, 3, none⟩) z0).trans p3
                          have p4 := (hb9.cell (p := ⟨w.heap.size, 4, none⟩) z0).trans p4
                          have p5 := (hb9.cell (p := ⟨w.heap.size, 5, none⟩) z0).trans p5
                          have m0 := (hb9.cell (p := ⟨w2.heap.size, 0, none⟩) z2).trans m0
                          have m1 := (hb9.cell (p := ⟨w2.heap.size, 1, none⟩) z2).trans m1
                          have m2 := (hb9.cell (p := ⟨w2.heap.size, 2, none⟩) z2).trans m2
                          have m3 := (hb9.cell (p := ⟨w2.heap.size, 3, none⟩) z2).trans m3
                          have m4 := (hb9.cell (p := ⟨w2.heap.size, 4, none⟩) z2).trans m4
                          have m5 := (hb9.cell (p := ⟨w2.heap.size, 5, none⟩) z2).trans m5
                          have q3 := (hb9.cell (p := ⟨w.heap.size + 1, 3, none⟩) z1).trans q3
                          have q4 := (hb9.cell (p := ⟨w.heap.size + 1, 4, none⟩) z1).trans q4
                          have hW : Below wf.heap.size wf w9 := by first | exact (hW.drew).trans (hb9.mono hW.size) | exact hW.trans (hb9.mono hW.size)
                          have z0 := Nat.lt_of_lt_of_le z0 hb9.size
                          have z1 := Nat.lt_of_lt_of_le z1 hb9.size
                          have z2 := Nat.lt_of_lt_of_le z2 hb9.size))
                      all_goals
                        go_wp2_with fail
                        refine (HFi.out _).mono ?_
                        rintro e w9 ⟨rfl, hb9⟩
                        go_wp2_with fail
                        go_ret
                        exact ⟨rfl, hwf.trans ((hW.trans (hb9.mono hW.size)).mono hwf.size)⟩
            · rw [shB_f hV2] at HRV2
              clear hV2 HV0 HVs hs2 HI HIs HI2 HIF HSub HMF hbf hsf
              go_wp2_with fail
              refine (HRV2.out _ hW).mono ?_
              rintro e y6 ⟨rfl, hc⟩
              have hW := hW.trans (hc.mono hW.size)
              have p0 := cell_below p0 hc
              have p1 := cell_below p1 hc
              have p2 := cell_below p2 hc
              have p3 := cell_below p3 hc
              have p4 := cell_below p4 hc
              have p5 := cell_below p5 hc
              have m0 := cell_below m0 hc
              have m1 := cell_below m1 hc
              have m2 := cell_below m2 hc
              have m3 := cell_below m3 hc
              have m4 := cell_below m4 hc
              have m5 := cell_below m5 hc
              have q0 := cell_below q0 hc
              have q1 := cell_below q1 hc
              have q2 := cell_below q2 hc
              have q3 := cell_below q3 hc
              have q4 := cell_below q4 hc
              clear hc
              go_wp2_with fail
              refine (HFi.out _).mono ?_
              rintro e w9 ⟨rfl, hb9⟩
              go_wp2_with fail
              go_ret
              exact ⟨rfl, hwf.trans ((hW.trans (hb9.mono hW.size)).mono hwf.size)⟩
          | false =>
            have HSub : Hid (HolSub s.H (Lz ++ [x0 % 200])) := Lib.hid (holSub_of fun j hj => List.mem_append_left _ (HMLz.out.2.1 j hj))
            have HBd2 : Hid (∀ y, y ∈ Lz ++ [x0 % 200] → I64 y) := Lib.hid fun y h => by
              rw [List.mem_append] at h
              rcases h with h | h
              · have := HBd.out y h; unfold I64; omega
              · simp at h; subst h; unfold I64; omega
            obtain ⟨wz, rfl⟩ : ∃ wz : World, wz = wr := ⟨_, rfl⟩
            obtain ⟨nz, hnz⟩ : ∃ nz, Lz.length = nz := ⟨_, rfl⟩
            obtain ⟨csz, hcsz⟩ : ∃ csz, ivs Lz = csz := ⟨_, rfl⟩
            have HLz : Hid (Lz.length = nz ∧ ivs Lz = csz) := Lib.hid ⟨hnz, hcsz⟩
            rw [hnz] at m2 HRow hL2
            rw [hcsz] at HRow
            clear hnz hcsz HMLz HC HLH HHB hML HSubz HBd hlt hk
            have hown := Lib.hid (HRow.out.alloc (.cells #[.int .i64 (x0 % 200)] 3))
            have qm : ∀ o O, (wz.alloc O).cell? ⟨w2.heap.size, o, none⟩ = wz.cell? ⟨w2.heap.size, o, none⟩ := fun o O => ((Below.refl wz.heap.size wz).alloc (Nat.le_refl _) O).cell (p := ⟨w2.heap.size, o, none⟩) hzs
            have hsm : ∀ O, (wz.alloc O).frozen? ⟨w2.heap.size, 2, none⟩ = wz.frozen? ⟨w2.heap.size, 2, none⟩ := fun O => ((Below.refl wz.heap.size wz).alloc (Nat.le_refl _) O).frozen (p := ⟨w2.heap.size, 2, none⟩) hzs
            go_wp2_with (first | (at_builtin; go_loud (refine wpList_append_lies _ rfl _ _ 22 rfl (w2.heap.size + 1) 3 n0 _ 1 8 Try.underlying22 hi hz0 hz1 hz2 rfl (by decide) (.slice az nz cz) nz _ (by rfl) hown.out ⟨wz.heap.size, 0, none⟩ 1 1 [.int .i64 (x0 % 200)] (by rfl) (by rfl) ?d1 ?d2 (by decide) ?d3 ?d4 ?d5 _ rfl ?_)))
            case d1 =>
              refine World.news_of_block (cs := #[.int .i64 (x0 % 200)]) (t := 3) (fr := (0, 0)) ?_
              exact heap_alloc_new _ _
            case d2 => simp [Value.oneCell']
            case d3 => unfold maxLen; omega
            case d4 => omega
            case d5 => first | (simp; omega) | simp
            intro g6 c6 w6 hown6 hgrow6 hat6 hlt6
            have ha6 := (Below.refl wz.heap.size wz).alloc (Nat.le_refl _) (.cells #[.int .i64 (x0 % 200)] 3)
            have hne6 : (Value.slice az nz cz).ownBlock ≠ some w2.heap.size := fun hz => by
              rcases HRow.out.2 with ⟨h, _⟩ | ⟨g2, c3, cur, h1, h2, _⟩
              · rw [h] at hz; simp [Value.ownBlock] at hz
              · rw [h1] at hz; simp [Value.ownBlock] at hz; omega
            have hcl : ∀ o, w6.cell? ⟨w2.heap.size, o, none⟩ = wz.cell? ⟨w2.heap.size, o, none⟩ := fun o => (hgrow6.cell_far ⟨w2.heap.size, o, none⟩ (by simp; omega) (fun h => hne6 h.symm)).trans (ha6.cell (p := ⟨w2.heap.size, o, none⟩) hzs)
            have hfl : w6.frozen? ⟨w2.heap.size, 2, none⟩ = false := (hgrow6.frozen_far ⟨w2.heap.size, 2, none⟩ (by simp; omega) (fun h => hne6 h.symm)).trans ((ha6.frozen (p := ⟨w2.heap.size, 2, none⟩) hzs).trans mf)
            have hb6 : Below w2.heap.size w2 w6 := ((hbz.alloc hbz.size _)).grown hgrow6 (by first | (simp; omega) | simp) (fun z hz => by
              rcases HRow.out.2 with ⟨h, _⟩ | ⟨g2, c3, cur, h1, h2, _⟩
              · rw [h] at hz; simp [Value.ownBlock] at hz
              · rw [h1] at hz; simp [Value.ownBlock] at hz; omega)
            have hs6 : w2.heap.size < w6.heap.size := by have := hgrow6.size; simp at this; omega
            have j0 := (hcl 0).trans m0
            have j1 := (hcl 1).trans m1
            have j2 := (hcl 2).trans m2
            have j3 := (hcl 3).trans m3
            have j4 := (hcl 4).trans m4
            have j5 := (hcl 5).trans m5
            have HLz2 : Hid (nz + 1 = (Lz ++ [x0 % 200]).length ∧ csz ++ [.int .i64 (x0 % 200)] = ivs (Lz ++ [x0 % 200])) := Lib.hid (by rw [ivs_app, List.length_append, HLz.out.1, HLz.out.2]; exact ⟨rfl, rfl⟩)
            go_wp2_with fail
            have HMB : Hid (MBox w2 (w6.setCell ⟨w2.heap.size, 2, none⟩ (.slice (some ⟨g6, 0, none⟩) (nz + 1) c6)) s (some ⟨g6, 0, none⟩) (nz + 1) c6) := Lib.hid ⟨hb6.setCell (Nat.le_refl _) _, by rw [World.size_setCell]; exact hs6, by simp [go_sem, j0], by simp [go_sem, j1], by simp [go_sem, j2], by simp [go_sem, j3], by simp [go_sem, j4], by simp [go_sem, j5], by rw [World.frozen?_setCell]; exact hfl⟩
            have HRW := Lib.hid (ownsRow_setCell_below hown6 (a := ⟨w2.heap.size, 2, none⟩) (Nat.lt_succ_self _) (.slice (some ⟨g6, 0, none⟩) (nz + 1) c6))
            obtain ⟨wf, hwf⟩ : ∃ wf, w6.setCell ⟨w2.heap.size, 2, none⟩ (.slice (some ⟨g6, 0, none⟩) (nz + 1) c6) = wf := ⟨_, rfl⟩
            rw [hwf] at HMB HRW ⊢
            rw [HLz2.out.1] at HMB ⊢
            rw [HLz2.out.1, HLz2.out.2] at HRW
            have HIF := Lib.hid (ints_ivs HRW.out (by rw [← HLz2.out.1]; omega) HBd2.out)
            have HMF := HMB
            clear hwf HMB HRW HLz2 HLz HRow hb6 hs6 j0 j1 j2 j3 j4 j5 hcl hfl hne6 ha6 hown hown6 hgrow6 hat6 hlt6 hbz hzs m0 m1 m2 m3 m4 m5 mf p0 p1 p2 p3 p4 p5 qm hsm HBz HBd2 hL2
            obtain ⟨Lf, hLf⟩ : ∃ Lf, Lz ++ [x0 % 200] = Lf := ⟨_, rfl⟩
            rw [hLf] at HMF HIF HSub ⊢
            obtain ⟨cf, rfl⟩ : ∃ cf : Nat, cf = c6 := ⟨_, rfl⟩
            clear hLf
            obtain ⟨hbf, hsf, m0, m1, m2, m3, m4, m5, -⟩ := HMF.out
            have hwf : Below w.heap.size w wf := hb.trans (hbf.mono hb.size)
            obtain ⟨-, p0, p1, p2, p3, p4, p5⟩ := HX0.out.on hbf
            have q0 := cell_below q0 hbf
            have q1 := cell_below q1 hbf
            have q2 := cell_below q2 hbf
            have q3 := cell_below q3 hbf
            have q4 := cell_below q4 hbf
            have HIs : Hid (∀ W, Below wf.heap.size wf W → ShS W s) := Lib.hid fun W hW => HI.out.below (hwf.trans (hW.mono hwf.size))
            obtain ⟨s2, hs2⟩ : ∃ s2 : Sh, (⟨s.O, s.C, (some ⟨g6, 0, none⟩), Lf, cf, s.M, s.aS, s.S, s.cS, s.aJ, s.J, s.cJ⟩ : Sh) = s2 := ⟨_, rfl⟩
            have HI2 : Hid (∀ W, Below wf.heap.size wf W → ShS W s2) := Lib.hid fun W hW => by rw [← hs2]; exact ⟨HIF.out.below hW, (HIs.out W hW).2⟩
            have HRV2 : Hid (∀ W, Below wf.heap.size wf W → Calls Try.prog 20 #[.agg #[.int .i64 s.O, .int .i64 s.C, .slice (some ⟨g6, 0, none⟩) Lf.length cf, .int .i64 s.M, .slice s.aS s.S.length s.cS, .slice s.aJ s.J.length s.cJ]] W fun e w' => e = .returned (.bool (shB s2)) ∧ Below W.heap.size W w') := Lib.hid fun W hW => by
              have := refValid_sh s2 W (HI2.out W hW)
              rw [← hs2] at this ⊢
              exact this
            have hW := Below.refl wf.heap.size wf
            have HV0 := HVs.out
            by_cases hV2 : ShOk s2
            · rw [shB_t hV2] at HRV2
              have d0 : s.C - s.O ≠ 0 := by omega
              have d1 : 0 ≤ x2 % (s.C - s.O) := Int.emod_nonneg _ d0
              have d2 : x2 % (s.C - s.O) < s.C - s.O := Int.emod_lt_of_pos _ (by omega)
              have eO : s2.O = s.O := by rw [← hs2]
              have eC : s2.C = s.C := by rw [← hs2]
              have eM : s2.M = s.M := by rw [← hs2]
              have eJ : s2.J = s.J := by rw [← hs2]
              have eH : s2.H = Lf := by rw [← hs2]
              have hsub : HolSub s.H s2.H := by rw [eH]; exact HSub.out
              obtain ⟨mm, hmm⟩ : ∃ mm : Nat, (mm : Int) = x2 % 5000 := ⟨(x2 % 5000).toNat, by omega⟩
              have HN1 := Lib.hid (fun W (hW : Below wf.heap.size wf W) => next_ok s x1 (1 + x2 % (s.C - s.O)) W (HIs.out W hW) HV0 a2 (by omega) (by omega) (by omega))
              have HN2 : Hid (∀ W, Below wf.heap.size wf W → Calls Try.prog 22 #[.agg #[.int .i64 s.O, .int .i64 s.C, .slice (some ⟨g6, 0, none⟩) Lf.length cf, .int .i64 s.M, .slice s.aS s.S.length s.cS, .slice s.aJ s.J.length s.cJ], .int .i64 x1, .int .i64 (1 + x2 % (s.C - s.O))] W fun e w' => e = .returned (.tuple #[.int .i64 (nextV s2.O s2.C s2.H x1 (1 + x2 % (s.C - s.O))), .int .i64 0]) ∧ Below W.heap.size W w') := Lib.hid fun W hW => by
                have := next_ok s2 x1 (1 + x2 % (s.C - s.O)) W (HI2.out W hW) hV2 a2 (by omega) (by omega) (by rw [eO, eC]; omega)
                rw [← hs2] at this ⊢
                exact this
              have HA1 := Lib.hid (fun W (hW : Below wf.heap.size wf W) => after_ok s x1 mm W (HIs.out W hW) HV0 a2 (by omega) (by omega))
              have HA2 : Hid (∀ W, Below wf.heap.size wf W → Calls Try.prog 24 #[.agg #[.int .i64 s.O, .int .i64 s.C, .slice (some ⟨g6, 0, none⟩) Lf.length cf, .int .i64 s.M, .slice s.aS s.S.length s.cS, .slice s.aJ s.J.length s.cJ], .int .i64 x1, .int .i64 mm] W fun e w' => e = .returned (.tuple #[.int .i64 (aftV s2.O s2.C s2.H x1 mm), .int .i64 0]) ∧ Below W.heap.size W w') := Lib.hid fun W hW => by
                have := after_ok s2 x1 mm W (HI2.out W hW) hV2 a2 (by omega) (by omega)
                rw [← hs2] at this ⊢
                exact this
              have g12 := nextV_sub hsub eO eC HV0 hV2 a2 (show 1 + x2 % (s.C - s.O) ≤ s.C - s.O by omega)
              have g34 := aftV_sub hsub eO eC HV0 hV2 x1 mm
              rw [hmm] at HA1 HA2 g34
              have hM := HV0.2.2.1.1
              obtain ⟨mi, hmi⟩ : ∃ mi : Int, x4 % s.M = mi := ⟨_, rfl⟩
              have mi0 : 0 ≤ mi := by rw [← hmi]; exact Int.emod_nonneg _ (by omega)
              have mi1 : mi < s.M := by rw [← hmi]; exact Int.emod_lt_of_pos _ (by omega)
              have htm : x4.tmod s.M = mi := by rw [← hmi, Int.tmod_eq_emod_of_nonneg a8]
              have HL1 := Lib.hid (fun W (hW : Below wf.heap.size wf W) => load_ok s mi W (HIs.out W hW) HV0 mi0 mi1)
              have HL2 : Hid (∀ W, Below wf.heap.size wf W → Calls Try.prog 29 #[.agg #[.int .i64 s.O, .int .i64 s.C, .slice (some ⟨g6, 0, none⟩) Lf.length cf, .int .i64 s.M, .slice s.aS s.S.length s.cS, .slice s.aJ s.J.length s.cJ], .int .i64 mi] W fun e w' => e = .returned (.tuple #[.int .i64 (loadV s2 mi), .int .i64 0]) ∧ Below W.heap.size W w') := Lib.hid fun W hW => by
                have := load_ok s2 mi W (HI2.out W hW) hV2 mi0 (by rw [eM]; exact mi1)
                rw [← hs2] at this ⊢
                exact this
              have g56 := loadV_sub hsub eO eC eJ HV0 hV2 mi
              have h12 := HV0.2.2.2.1
              have wm : IntKind.i64.wrap mi = mi := IntWalk.i64_in _ (by omega)
              have wx4 : IntKind.i64.wrap x4 = x4 := IntWalk.i64_in _ (by omega)
              have wx3 : IntKind.i64.wrap x3 = x3 := IntWalk.i64_in _ (by omega)
              have nM : s.M ≠ 0 := by omega
              generalize nextV s.O s.C s.H x1 (1 + x2 % (s.C - s.O)) = n1 at *
              generalize nextV s2.O s2.C s2.H x1 (1 + x2 % (s.C - s.O)) = n2 at *
              generalize aftV s.O s.C s.H x1 (x2 % 5000) = e1 at *
              generalize aftV s2.O s2.C s2.H x1 (x2 % 5000) = e2 at *
              generalize loadV s mi = u1 at *
              generalize loadV s2 mi = u2 at *
              by_cases hJ0 : s.J.length = 0
              · have hJz : ¬ (0 : Int) < s.J.length := by omega
                clear hV2 HV0 HVs hs2 eO eC eM eJ eH hsub hmm hmi HI HIs HI2 HIF HSub HMF hbf hsf hM h12 hJ0
                skip
                refine (HRV2.out _ hW).mono ?_
                rintro e y1 ⟨rfl, hc⟩
                have hW := hW.trans (hc.mono hW.size)
                have p0 := cell_below p0 hc
                have p1 := cell_below p1 hc
                have p2 := cell_below p2 hc
                have p3 := cell_below p3 hc
                have p4 := cell_below p4 hc
                have p5 := cell_below p5 hc
                have m0 := cell_below m0 hc
                have m1 := cell_below m1 hc
                have m2 := cell_below m2 hc
                have m3 := cell_below m3 hc
                have m4 := cell_below m4 hc
                have m5 := cell_below m5 hc
                have q0 := cell_below q0 hc
                have q1 := cell_below q1 hc
                have q2 := cell_below q2 hc
                have q3 := cell_below q3 hc
                have q4 := cell_below q4 hc
                clear hc
                go_wp2_with fail
                refine (HN1.out _ hW).mono ?_
                rintro e y2 ⟨rfl, hc⟩
                have hW := hW.trans (hc.mono hW.size)
                have p0 := cell_below p0 hc
                have p1 := cell_below p1 hc
                have p2 := cell_below p2 hc
                have p3 := cell_below p3 hc
                have p4 := cell_below p4 hc
                have p5 := cell_below p5 hc
                have m0 := cell_below m0 hc
                have m1 := cell_below m1 hc
                have m2 := cell_below m2 hc
                have m3 := cell_below m3 hc
                have m4 := cell_below m4 hc
                have m5 := cell_below m5 hc
                have q0 := cell_below q0 hc
                have q1 := cell_below q1 hc
                have q2 := cell_below q2 hc
                have q3 := cell_below q3 hc
                have q4 := cell_below q4 hc
                clear hc
                go_wp2_with fail
                refine (HN2.out _ hW).mono ?_
                rintro e y3 ⟨rfl, hc⟩
                have hW := hW.trans (hc.mono hW.size)
                have p0 := cell_below p0 hc
                have p1 := cell_below p1 hc
                have p2 := cell_below p2 hc
                have p3 := cell_below p3 hc
                have p4 := cell_below p4 hc
                have p5 := cell_below p5 hc
                have m0 := cell_below m0 hc
                have m1 := cell_below m1 hc
                have m2 := cell_below m2 hc
                have m3 := cell_below m3 hc
                have m4 := cell_below m4 hc
                have m5 := cell_below m5 hc
                have q0 := cell_below q0 hc
                have q1 := cell_below q1 hc
                have q2 := cell_below q2 hc
                have q3 := cell_below q3 hc
                have q4 := cell_below q4 hc
                clear hc
                go_wp2_with fail
                refine (HA1.out _ hW).mono ?_
                rintro e y4 ⟨rfl, hc⟩
                have hW := hW.trans (hc.mono hW.size)
                have p0 := cell_below p0 hc
                have p1 := cell_below p1 hc
                have p2 := cell_below p2 hc
                have p3 := cell_below p3 hc
                have p4 := cell_below p4 hc
                have p5 := cell_below p5 hc
                have m0 := cell_below m0 hc
                have m1 := cell_below m1 hc
                have m2 := cell_below m2 hc
                have m3 := cell_below m3 hc
                have m4 := cell_below m4 hc
                have m5 := cell_below m5 hc
                have q0 := cell_below q0 hc
                have q1 := cell_below q1 hc
                have q2 := cell_below q2 hc
                have q3 := cell_below q3 hc
                have q4 := cell_below q4 hc
                clear hc
                go_wp2_with fail
                refine (HA2.out _ hW).mono ?_
                rintro e y5 ⟨rfl, hc⟩
                have hW := hW.trans (hc.mono hW.size)
                have p0 := cell_below p0 hc
                have p1 := cell_below p1 hc
                have p2 := cell_below p2 hc
                have p3 := cell_below p3 hc
                have p4 := cell_below p4 hc
                have p5 := cell_below p5 hc
                have m0 := cell_below m0 hc
                have m1 := cell_below m1 hc
                have m2 := cell_below m2 hc
                have m3 := cell_below m3 hc
                have m4 := cell_below m4 hc
                have m5 := cell_below m5 hc
                have q0 := cell_below q0 hc
                have q1 := cell_below q1 hc
                have q2 := cell_below q2 hc
                have q3 := cell_below q3 hc
                have q4 := cell_below q4 hc
                clear hc
                go_wp2_with fail
                have z0 := block_lt p0
                have z1 := block_lt q3
                have z2 := block_lt m0
                clear q0 q1 q2
                go_region_held3 (fun w' => w'.cell? ⟨w.heap.size, 0, none⟩ = some (.int .i64 s.O) ∧ w'.cell? ⟨w.heap.size, 1, none⟩ = some (.int .i64 s.C) ∧ w'.cell? ⟨w.heap.size, 2, none⟩ = some (.slice s.aH s.H.length s.cH) ∧ w'.cell? ⟨w.heap.size, 3, none⟩ = some (.int .i64 s.M) ∧ w'.cell? ⟨w.heap.size, 4, none⟩ = some (.slice s.aS s.S.length s.cS) ∧ w'.cell? ⟨w.heap.size, 5, none⟩ = some (.slice s.aJ s.J.length s.cJ) ∧ w'.cell? ⟨w2.heap.size, 0, none⟩ = some (.int .i64 s.O) ∧ w'.cell? ⟨w2.heap.size, 1, none⟩ = some (.int .i64 s.C) ∧ w'.cell? ⟨w2.heap.size, 2, none⟩ = some (.slice (some ⟨g6, 0, none⟩) Lf.length cf) ∧ w'.cell? ⟨w2.heap.size, 3, none⟩ = some (.int .i64 s.M) ∧ w'.cell? ⟨w2.heap.size, 4, none⟩ = some (.slice s.aS s.S.length s.cS) ∧ w'.cell? ⟨w2.heap.size, 5, none⟩ = some (.slice s.aJ s.J.length s.cJ) ∧ w'.cell? ⟨w.heap.size + 1, 3, none⟩ = some (.int .u8 x3) ∧ w'.cell? ⟨w.heap.size + 1, 4, none⟩ = some (.int .u8 x4)) (go_keep)
                  ((go_at_call 29
                    refine (HL1.out _ (by first | exact hW.drew | exact hW | exact below_drewN hW _)).mono ?_
                    rintro E w9 ⟨rfl, hb9⟩
                    have p0 := (hb9.cell (p := ⟨w.heap.size, 0, none⟩) z0).trans p0
                    have p1 := (hb9.cell (p := ⟨w.heap.size, 1, none⟩) z0).trans p1
                    have p2 := (hb9.cell (p := ⟨w.heap.size, 2, none⟩) z0).trans p2
                    have p3 := (hb9.cell (p := ⟨w.heap.size, 3, none⟩) z0).trans p3
                    have p4 := (hb9.cell (p := ⟨w.heap.size, 4, none⟩) z0).trans p4
                    have p5 := (hb9.cell (p := ⟨w.heap.size, 5, none⟩) z0).trans p5
                    have m0 := (hb9.cell (p := ⟨w2.heap.size, 0, none⟩) z2).trans m0
                    have m1 := (hb9.cell (p := ⟨w2.heap.size, 1, none⟩) z2).trans m1
                    have m2 := (hb9.cell (p := ⟨w2.heap.size, 2, none⟩) z2).trans m2
                    have m3 := (hb9.cell (p := ⟨w2.heap.size, 3, none⟩) z2).trans m3
                    have m4 := (hb9.cell (p := ⟨w2.heap.size, 4, none⟩) z2).trans m4
                    have m5 := (hb9.cell (p := ⟨w2.heap.size, 5, none⟩) z2).trans m5
                    have q3 := (hb9.cell (p := ⟨w.heap.size + 1, 3, none⟩) z1).trans q3
                    have q4 := (hb9.cell (p := ⟨w.heap.size + 1, 4, none⟩) z1).trans q4
                    have hW : Below wf.heap.size wf w9 := by first | exact (hW.drew).trans (hb9.mono hW.size) | exact hW.trans (hb9.mono hW.size)
                    have z0 := Nat.lt_of_lt_of_le z0 hb9.size
                    have z1 := Nat.lt_of_lt_of_le z1 hb9.size
                    have z2 := Nat.lt_of_lt_of_le z2 hb9.size))
                all_goals
                  go_wp2_with fail
                  go_region_held3 (fun w' => w'.cell? ⟨w.heap.size, 0, none⟩ = some (.int .i64 s.O) ∧ w'.cell? ⟨w.heap.size, 1, none⟩ = some (.int .i64 s.C) ∧ w'.cell? ⟨w.heap.size, 2, none⟩ = some (.slice s.aH s.H.length s.cH) ∧ w'.cell? ⟨w.heap.size, 3, none⟩ = some (.int .i64 s.M) ∧ w'.cell? ⟨w.heap.size, 4, none⟩ = some (.slice s.aS s.S.length s.cS) ∧ w'.cell? ⟨w.heap.size, 5, none⟩ = some (.slice s.aJ s.J.length s.cJ) ∧ w'.cell? ⟨w2.heap.size, 0, none⟩ = some (.int .i64 s.O) ∧ w'.cell? ⟨w2.heap.size, 1, none⟩ = some (.int .i64 s.C) ∧ w'.cell? ⟨w2.heap.size, 2, none⟩ = some (.slice (some ⟨g6, 0, none⟩) Lf.length cf) ∧ w'.cell? ⟨w2.heap.size, 3, none⟩ = some (.int .i64 s.M) ∧ w'.cell? ⟨w2.heap.size, 4, none⟩ = some (.slice s.aS s.S.length s.cS) ∧ w'.cell? ⟨w2.heap.size, 5, none⟩ = some (.slice s.aJ s.J.length s.cJ) ∧ w'.cell? ⟨w.heap.size + 1, 3, none⟩ = some (.int .u8 x3) ∧ w'.cell? ⟨w.heap.size + 1, 4, none⟩ = some (.int .u8 x4)) (go_keep)
                    ((go_at_call 29
                      refine (HL2.out _ (by first | exact hW.drew | exact hW | exact below_drewN hW _)).mono ?_
                      rintro E w9 ⟨rfl, hb9⟩
                      have p0 := (hb9.cell (p := ⟨w.heap.size, 0, none⟩) z0).trans p0
                      have p1 := (hb9.cell (p := ⟨w.heap.size, 1, none⟩) z0).trans p1
                      have p2 := (hb9.cell (p := ⟨w.heap.size, 2, none⟩) z0).trans p2
                      have p3 := (hb9.cell (p := ⟨w.heap.size, 3, none⟩) z0).trans p3
                      have p4 := (hb9.cell (p := ⟨w.heap.size, 4, none⟩) z0).trans p4
                      have p5 := (hb9.cell (p := ⟨w.heap.size, 5, none⟩) z0).trans p5
                      have m0 := (hb9.cell (p := ⟨w2.heap.size, 0, none⟩) z2).trans m0
                      have m1 := (hb9.cell (p := ⟨w2.heap.size, 1, none⟩) z2).trans m1
                      have m2 := (hb9.cell (p := ⟨w2.heap.size, 2, none⟩) z2).trans m2
                      have m3 := (hb9.cell (p := ⟨w2.heap.size, 3, none⟩) z2).trans m3
                      have m4 := (hb9.cell (p := ⟨w2.heap.size, 4, none⟩) z2).trans m4
                      have m5 := (hb9.cell (p := ⟨w2.heap.size, 5, none⟩) z2).trans m5
                      have q3 := (hb9.cell (p := ⟨w.heap.size + 1, 3, none⟩) z1).trans q3
                      have q4 := (hb9.cell (p := ⟨w.heap.size + 1, 4, none⟩) z1).trans q4
                      have hW : Below wf.heap.size wf w9 := by first | exact (hW.drew).trans (hb9.mono hW.size) | exact hW.trans (hb9.mono hW.size)
                      have z0 := Nat.lt_of_lt_of_le z0 hb9.size
                      have z1 := Nat.lt_of_lt_of_le z1 hb9.size
                      have z2 := Nat.lt_of_lt_of_le z2 hb9.size))
                  all_goals
                    go_wp2_with fail
                    refine (HFi.out _).mono ?_
                    rintro e w9 ⟨rfl, hb9⟩
                    go_wp2_with fail
                    go_ret
                    exact ⟨rfl, hwf.trans ((hW.trans (hb9.mono hW.size)).mono hwf.size)⟩
              · have hJz : (0 : Int) < s.J.length := by omega
                obtain ⟨j, hj⟩ : ∃ j : Nat, x3 % (s.J.length : Int) = j := ⟨(x3 % (s.J.length : Int)).toNat, by have := Int.emod_nonneg x3 (show (s.J.length : Int) ≠ 0 by omega); omega⟩
                have j1 : j < s.J.length := by have := Int.emod_lt_of_pos x3 hJz; omega
                have htj : x3.tmod (s.J.length : Int) = j := by rw [← hj, Int.tmod_eq_emod_of_nonneg a6]
                have HC1 := Lib.hid (fun W (hW : Below wf.heap.size wf W) => chain_ok s j W (HIs.out W hW) HV0 j1)
                have HC2 : Hid (∀ W, Below wf.heap.size wf W → Calls Try.prog 28 #[.agg #[.int .i64 s.O, .int .i64 s.C, .slice (some ⟨g6, 0, none⟩) Lf.length cf, .int .i64 s.M, .slice s.aS s.S.length s.cS, .slice s.aJ s.J.length s.cJ], .int .i64 j] W fun e w' => e = .returned (.tuple #[.int .i64 (chainV s2 (gj s2.J j)), .int .i64 0]) ∧ Below W.heap.size W w') := Lib.hid fun W hW => by
                  have := chain_ok s2 j W (HI2.out W hW) hV2 (by rw [eJ]; exact j1)
                  rw [← hs2] at this ⊢
                  exact this
                have g78 := chainV_sub hsub eO eC eM HV0 hV2 (HV0.2.2.2.2 j j1)
                rw [eJ] at HC2
                have wj : IntKind.i64.wrap (j : Int) = j := IntWalk.i64_in _ (by omega)
                have nJ : (s.J.length : Int) ≠ 0 := by omega
                have nJ0 : ((s.J.length : Int) == 0) = false := by rw [beq_eq_false_iff_ne]; exact nJ
                have nJ1 : s.J ≠ [] := fun e => by rw [e] at hJz; simp at hJz
                have nJ2 : s.J.length ≠ 0 := by omega
                have nJ3 : (s.J.length == 0) = false := by rw [beq_eq_false_iff_ne]; exact nJ2
                generalize chainV s (gj s.J j) = k1 at *
                generalize chainV s2 (gj s.J j) = k2 at *
                clear hV2 HV0 HVs hs2 eO eC eM eJ eH hsub hmm hmi HI HIs HI2 HIF HSub HMF hbf hsf hM hJ0 hj
                skip
                refine (HRV2.out _ hW).mono ?_
                rintro e y1 ⟨rfl, hc⟩
                have hW := hW.trans (hc.mono hW.size)
                have p0 := cell_below p0 hc
                have p1 := cell_below p1 hc
                have p2 := cell_below p2 hc
                have p3 := cell_below p3 hc
                have p4 := cell_below p4 hc
                have p5 := cell_below p5 hc
                have m0 := cell_below m0 hc
                have m1 := cell_below m1 hc
                have m2 := cell_below m2 hc
                have m3 := cell_below m3 hc
                have m4 := cell_below m4 hc
                have m5 := cell_below m5 hc
                have q0 := cell_below q0 hc
                have q1 := cell_below q1 hc
                have q2 := cell_below q2 hc
                have q3 := cell_below q3 hc
                have q4 := cell_below q4 hc
                clear hc
                go_wp2_with fail
                refine (HN1.out _ hW).mono ?_
                rintro e y2 ⟨rfl, hc⟩
                have hW := hW.trans (hc.mono hW.size)
                have p0 := cell_below p0 hc
                have p1 := cell_below p1 hc
                have p2 := cell_below p2 hc
                have p3 := cell_below p3 hc
                have p4 := cell_below p4 hc
                have p5 := cell_below p5 hc
                have m0 := cell_below m0 hc
                have m1 := cell_below m1 hc
                have m2 := cell_below m2 hc
                have m3 := cell_below m3 hc
                have m4 := cell_below m4 hc
                have m5 := cell_below m5 hc
                have q0 := cell_below q0 hc
                have q1 := cell_below q1 hc
                have q2 := cell_below q2 hc
                have q3 := cell_below q3 hc
                have q4 := cell_below q4 hc
                clear hc
                go_wp2_with fail
                refine (HN2.out _ hW).mono ?_
                rintro e y3 ⟨rfl, hc⟩
                have hW := hW.trans (hc.mono hW.size)
                have p0 := cell_below p0 hc
                have p1 := cell_below p1 hc
                have p2 := cell_below p2 hc
                have p3 := cell_below p3 hc
                have p4 := cell_below p4 hc
                have p5 := cell_below p5 hc
                have m0 := cell_below m0 hc
                have m1 := cell_below m1 hc
                have m2 := cell_below m2 hc
                have m3 := cell_below m3 hc
                have m4 := cell_below m4 hc
                have m5 := cell_below m5 hc
                have q0 := cell_below q0 hc
                have q1 := cell_below q1 hc
                have q2 := cell_below q2 hc
                have q3 := cell_below q3 hc
                have q4 := cell_below q4 hc
                clear hc
                go_wp2_with fail
                refine (HA1.out _ hW).mono ?_
                rintro e y4 ⟨rfl, hc⟩
                have hW := hW.trans (hc.mono hW.size)
                have p0 := cell_below p0 hc
                have p1 := cell_below p1 hc
                have p2 := cell_below p2 hc
                have p3 := cell_below p3 hc
                have p4 := cell_below p4 hc
                have p5 := cell_below p5 hc
                have m0 := cell_below m0 hc
                have m1 := cell_below m1 hc
                have m2 := cell_below m2 hc
                have m3 := cell_below m3 hc
                have m4 := cell_below m4 hc
                have m5 := cell_below m5 hc
                have q0 := cell_below q0 hc
                have q1 := cell_below q1 hc
                have q2 := cell_below q2 hc
                have q3 := cell_below q3 hc
                have q4 := cell_below q4 hc
                clear hc
                go_wp2_with fail
                refine (HA2.out _ hW).mono ?_
                rintro e y5 ⟨rfl, hc⟩
                have hW := hW.trans (hc.mono hW.size)
                have p0 := cell_below p0 hc
                have p1 := cell_below p1 hc
                have p2 := cell_below p2 hc
                have p3 := cell_below p3 hc
                have p4 := cell_below p4 hc
                have p5 := cell_below p5 hc
                have m0 := cell_below m0 hc
                have m1 := cell_below m1 hc
                have m2 := cell_below m2 hc
                have m3 := cell_below m3 hc
                have m4 := cell_below m4 hc
                have m5 := cell_below m5 hc
                have q0 := cell_below q0 hc
                have q1 := cell_below q1 hc
                have q2 := cell_below q2 hc
                have q3 := cell_below q3 hc
                have q4 := cell_below q4 hc
                clear hc
                go_wp2_with fail
                have z0 := block_lt p0
                have z1 := block_lt q3
                have z2 := block_lt m0
                clear q0 q1 q2
                go_region_held3 (fun w' => w'.cell? ⟨w.heap.size, 0, none⟩ = some (.int .i64 s.O) ∧ w'.cell? ⟨w.heap.size, 1, none⟩ = some (.int .i64 s.C) ∧ w'.cell? ⟨w.heap.size, 2, none⟩ = some (.slice s.aH s.H.length s.cH) ∧ w'.cell? ⟨w.heap.size, 3, none⟩ = some (.int .i64 s.M) ∧ w'.cell? ⟨w.heap.size, 4, none⟩ = some (.slice s.aS s.S.length s.cS) ∧ w'.cell? ⟨w.heap.size, 5, none⟩ = some (.slice s.aJ s.J.length s.cJ) ∧ w'.cell? ⟨w2.heap.size, 0, none⟩ = some (.int .i64 s.O) ∧ w'.cell? ⟨w2.heap.size, 1, none⟩ = some (.int .i64 s.C) ∧ w'.cell? ⟨w2.heap.size, 2, none⟩ = some (.slice (some ⟨g6, 0, none⟩) Lf.length cf) ∧ w'.cell? ⟨w2.heap.size, 3, none⟩ = some (.int .i64 s.M) ∧ w'.cell? ⟨w2.heap.size, 4, none⟩ = some (.slice s.aS s.S.length s.cS) ∧ w'.cell? ⟨w2.heap.size, 5, none⟩ = some (.slice s.aJ s.J.length s.cJ) ∧ w'.cell? ⟨w.heap.size + 1, 3, none⟩ = some (.int .u8 x3) ∧ w'.cell? ⟨w.heap.size + 1, 4, none⟩ = some (.int .u8 x4)) (go_keep)
                  ((go_at_call 28
                    refine (HC1.out _ (by first | exact hW.drew | exact hW | exact below_drewN hW _)).mono ?_
                    rintro E w9 ⟨rfl, hb9⟩
                    have p0 := (hb9.cell (p := ⟨w.heap.size, 0, none⟩) z0).trans p0
                    have p1 := (hb9.cell (p := ⟨w.heap.size, 1, none⟩) z0).trans p1
                    have p2 := (hb9.cell (p := ⟨w.heap.size, 2, none⟩) z0).trans p2
                    have p3 := (hb9.cell (p := ⟨w.heap.size, 3, none⟩) z0).trans p3
                    have p4 := (hb9.cell (p := ⟨w.heap.size, 4, none⟩) z0).trans p4
                    have p5 := (hb9.cell (p := ⟨w.heap.size, 5, none⟩) z0).trans p5
                    have m0 := (hb9.cell (p := ⟨w2.heap.size, 0, none⟩) z2).trans m0
                    have m1 := (hb9.cell (p := ⟨w2.heap.size, 1, none⟩) z2).trans m1
                    have m2 := (hb9.cell (p := ⟨w2.heap.size, 2, none⟩) z2).trans m2
                    have m3 := (hb9.cell (p := ⟨w2.heap.size, 3, none⟩) z2).trans m3
                    have m4 := (hb9.cell (p := ⟨w2.heap.size, 4, none⟩) z2).trans m4
                    have m5 := (hb9.cell (p := ⟨w2.heap.size, 5, none⟩) z2).trans m5
                    have q3 := (hb9.cell (p := ⟨w.heap.size + 1, 3, none⟩) z1).trans q3
                    have q4 := (hb9.cell (p := ⟨w.heap.size + 1, 4, none⟩) z1).trans q4
                    have hW : Below wf.heap.size wf w9 := by first | exact (hW.drew).trans (hb9.mono hW.size) | exact hW.trans (hb9.mono hW.size)
                    have z0 := Nat.lt_of_lt_of_le z0 hb9.size
                    have z1 := Nat.lt_of_lt_of_le z1 hb9.size
                    have z2 := Nat.lt_of_lt_of_le z2 hb9.size))
                all_goals
                  go_wp2_with fail
                  go_region_held3 (fun w' => w'.cell? ⟨w.heap.size, 0, none⟩ = some (.int .i64 s.O) ∧ w'.cell? ⟨w.heap.size, 1, none⟩ = some (.int .i64 s.C) ∧ w'.cell? ⟨w.heap.size, 2, none⟩ = some (.slice s.aH s.H.length s.cH) ∧ w'.cell? ⟨w.heap.size, 3, none⟩ = some (.int .i64 s.M) ∧ w'.cell? ⟨w.heap.size, 4, none⟩ = some (.slice s.aS s.S.length s.cS) ∧ w'.cell? ⟨w.heap.size, 5, none⟩ = some (.slice s.aJ s.J.length s.cJ) ∧ w'.cell? ⟨w2.heap.size, 0, none⟩ = some (.int .i64 s.O) ∧ w'.cell? ⟨w2.heap.size, 1, none⟩ = some (.int .i64 s.C) ∧ w'.cell? ⟨w2.heap.size, 2, none⟩ = some (.slice (some ⟨g6, 0, none⟩) Lf.length cf) ∧ w'.cell? ⟨w2.heap.size, 3, none⟩ = some (.int .i64 s.M) ∧ w'.cell? ⟨w2.heap.size, 4, none⟩ = some (.slice s.aS s.S.length s.cS) ∧ w'.cell? ⟨w2.heap.size, 5, none⟩ = some (.slice s.aJ s.J.length s.cJ) ∧ w'.cell? ⟨w.heap.size + 1, 3, none⟩ = some (.int .u8 x3) ∧ w'.cell? ⟨w.heap.size + 1, 4, none⟩ = some (.int .u8 x4)) (go_keep)
                    ((go_at_call 28
                      refine (HC2.out _ (by first | exact hW.drew | exact hW | exact below_drewN hW _)).mono ?_
                      rintro E w9 ⟨rfl, hb9⟩
                      have p0 := (hb9.cell (p := ⟨w.heap.size, 0, none⟩) z0).trans p0
                      have p1 := (hb9.cell (p := ⟨w.heap.size, 1, none⟩) z0).trans p1
                      have p2 := (hb9.cell (p := ⟨w.heap.size, 2, none⟩) z0).trans p2
                      have p3 := (hb9.cell (p := ⟨w.heap.size, 3, none⟩) z0).trans p3
                      have p4 := (hb9.cell (p := ⟨w.heap.size, 4, none⟩) z0).trans p4
                      have p5 := (hb9.cell (p := ⟨w.heap.size, 5, none⟩) z0).trans p5
                      have m0 := (hb9.cell (p := ⟨w2.heap.size, 0, none⟩) z2).trans m0
                      have m1 := (hb9.cell (p := ⟨w2.heap.size, 1, none⟩) z2).trans m1
                      have m2 := (hb9.cell (p := ⟨w2.heap.size, 2, none⟩) z2).trans m2
                      have m3 := (hb9.cell (p := ⟨w2.heap.size, 3, none⟩) z2).trans m3
                      have m4 := (hb9.cell (p := ⟨w2.heap.size, 4, none⟩) z2).trans m4
                      have m5 := (hb9.cell (p := ⟨w2.heap.size, 5, none⟩) z2).trans m5
                      have q3 := (hb9.cell (p := ⟨w.heap.size + 1, 3, none⟩) z1).trans q3
                      have q4 := (hb9.cell (p := ⟨w.heap.size + 1, 4, none⟩) z1).trans q4
                      have hW : Below wf.heap.size wf w9 := by first | exact (hW.drew).trans (hb9.mono hW.size) | exact hW.trans (hb9.mono hW.size)
                      have z0 := Nat.lt_of_lt_of_le z0 hb9.size
                      have z1 := Nat.lt_of_lt_of_le z1 hb9.size
                      have z2 := Nat.lt_of_lt_of_le z2 hb9.size))
                  all_goals
                    go_wp2_with fail
                    go_region_held3 (fun w' => w'.cell? ⟨w.heap.size, 0, none⟩ = some (.int .i64 s.O) ∧ w'.cell? ⟨w.heap.size, 1, none⟩ = some (.int .i64 s.C) ∧ w'.cell? ⟨w.heap.size, 2, none⟩ = some (.slice s.aH s.H.length s.cH) ∧ w'.cell? ⟨w.heap.size, 3, none⟩ = some (.int .i64 s.M) ∧ w'.cell? ⟨w.heap.size, 4, none⟩ = some (.slice s.aS s.S.length s.cS) ∧ w'.cell? ⟨w.heap.size, 5, none⟩ = some (.slice s.aJ s.J.length s.cJ) ∧ w'.cell? ⟨w2.heap.size, 0, none⟩ = some (.int .i64 s.O) ∧ w'.cell? ⟨w2.heap.size, 1, none⟩ = some (.int .i64 s.C) ∧ w'.cell? ⟨w2.heap.size, 2, none⟩ = some (.slice (some ⟨g6, 0, none⟩) Lf.length cf) ∧ w'.cell? ⟨w2.heap.size, 3, none⟩ = some (.int .i64 s.M) ∧ w'.cell? ⟨w2.heap.size, 4, none⟩ = some (.slice s.aS s.S.length s.cS) ∧ w'.cell? ⟨w2.heap.size, 5, none⟩ = some (.slice s.aJ s.J.length s.cJ) ∧ w'.cell? ⟨w.heap.size + 1, 3, none⟩ = some (.int .u8 x3) ∧ w'.cell? ⟨w.heap.size + 1, 4, none⟩ = some (.int .u8 x4)) (go_keep)
                      ((go_at_call 29
                        refine (HL1.out _ (by first | exact hW.drew | exact hW | exact below_drewN hW _)).mono ?_
                        rintro E w9 ⟨rfl, hb9⟩
                        have p0 := (hb9.cell (p := ⟨w.heap.size, 0, none⟩) z0).trans p0
                        have p1 := (hb9.cell (p := ⟨w.heap.size, 1, none⟩) z0).trans p1
                        have p2 := (hb9.cell (p := ⟨w.heap.size, 2, none⟩) z0).trans p2
                        have p3 := (hb9.cell (p := ⟨w.heap.size, 3, none⟩) z0).trans p3
                        have p4 := (hb9.cell (p := ⟨w.heap.size, 4, none⟩) z0).trans p4
                        have p5 := (hb9.cell (p := ⟨w.heap.size, 5, none⟩) z0).trans p5
                        have m0 := (hb9.cell (p := ⟨w2.heap.size, 0, none⟩) z2).trans m0
                        have m1 := (hb9.cell (p := ⟨w2.heap.size, 1, none⟩) z2).trans m1
                        have m2 := (hb9.cell (p := ⟨w2.heap.size, 2, none⟩) z2).trans m2
                        have m3 := (hb9.cell (p := ⟨w2.heap.size, 3, none⟩) z2).trans m3
                        have m4 := (hb9.cell (p := ⟨w2.heap.size, 4, none⟩) z2).trans m4
                        have m5 := (hb9.cell (p := ⟨w2.heap.size, 5, none⟩) z2).trans m5
                        have q3 := (hb9.cell (p := ⟨w.heap.size + 1, 3, none⟩) z1).trans q3
                        have q4 := (hb9.cell (p := ⟨w.heap.size + 1, 4, none⟩) z1).trans q4
                        have hW : Below wf.heap.size wf w9 := by first | exact (hW.drew).trans (hb9.mono hW.size) | exact hW.trans (hb9.mono hW.size)
                        have z0 := Nat.lt_of_lt_of_le z0 hb9.size
                        have z1 := Nat.lt_of_lt_of_le z1 hb9.size
                        have z2 := Nat.lt_of_lt_of_le z2 hb9.size))
                    all_goals
                      go_wp2_with fail
                      go_region_held3 (fun w' => w'.cell? ⟨w.heap.size, 0, none⟩ = some (.int .i64 s.O) ∧ w'.cell? ⟨w.heap.size, 1, none⟩ = some (.int .i64 s.C) ∧ w'.cell? ⟨w.heap.size, 2, none⟩ = some (.slice s.aH s.H.length s.cH) ∧ w'.cell? ⟨w.heap.size, 3, none⟩ = some (.int .i64 s.M) ∧ w'.cell? ⟨w.heap.size, 4, none⟩ = some (.slice s.aS s.S.length s.cS) ∧ w'.cell? ⟨w.heap.size, 5, none⟩ = some (.slice s.aJ s.J.length s.cJ) ∧ w'.cell? ⟨w2.heap.size, 0, none⟩ = some (.int .i64 s.O) ∧ w'.cell? ⟨w2.heap.size, 1, none⟩ = some (.int .i64 s.C) ∧ w'.cell? ⟨w2.heap.size, 2, none⟩ = some (.slice (some ⟨g6, 0, none⟩) Lf.length cf) ∧ w'.cell? ⟨w2.heap.size, 3, none⟩ = some (.int .i64 s.M) ∧ w'.cell? ⟨w2.heap.size, 4, none⟩ = some (.slice s.aS s.S.length s.cS) ∧ w'.cell? ⟨w2.heap.size, 5, none⟩ = some (.slice s.aJ s.J.length s.cJ) ∧ w'.cell? ⟨w.heap.size + 1, 3, none⟩ = some (.int .u8 x3) ∧ w'.cell? ⟨w.heap.size + 1, 4, none⟩ = some (.int .u8 x4)) (go_keep)
                        ((go_at_call 29
                          refine (HL2.out _ (by first | exact hW.drew | exact hW | exact below_drewN hW _)).mono ?_
                          rintro E w9 ⟨rfl, hb9⟩
                          have p0 := (hb9.cell (p := ⟨w.heap.size, 0, none⟩) z0).trans p0
                          have p1 := (hb9.cell (p := ⟨w.heap.size, 1, none⟩) z0).trans p1
                          have p2 := (hb9.cell (p := ⟨w.heap.size, 2, none⟩) z0).trans p2
                          have p3 := (hb9.cell (p := ⟨w.heap.size, 3, none⟩) z0).trans p3
                          have p4 := (hb9.cell (p := ⟨w.heap.size, 4, none⟩) z0).trans p4
                          have p5 := (hb9.cell (p := ⟨w.heap.size, 5, none⟩) z0).trans p5
                          have m0 := (hb9.cell (p := ⟨w2.heap.size, 0, none⟩) z2).trans m0
                          have m1 := (hb9.cell (p := ⟨w2.heap.size, 1, none⟩) z2).trans m1
                          have m2 := (hb9.cell (p := ⟨w2.heap.size, 2, none⟩) z2).trans m2
                          have m3 := (hb9.cell (p := ⟨w2.heap.size, 3, none⟩) z2).trans m3
                          have m4 := (hb9.cell (p := ⟨w2.heap.size, 4, none⟩) z2).trans m4
                          have m5 := (hb9.cell (p := ⟨w2.heap.size, 5, none⟩) z2).trans m5
                          have q3 := (hb9.cell (p := ⟨w.heap.size + 1, 3, none⟩) z1).trans q3
                          have q4 := (hb9.cell (p := ⟨w.heap.size + 1, 4, none⟩) z1).trans q4
                          have hW : Below wf.heap.size wf w9 := by first | exact (hW.drew).trans (hb9.mono hW.size) | exact hW.trans (hb9.mono hW.size)
                          have z0 := Nat.lt_of_lt_of_le z0 hb9.size
                          have z1 := Nat.lt_of_lt_of_le z1 hb9.size
                          have z2 := Nat.lt_of_lt_of_le z2 hb9.size))
                      all_goals
                        go_wp2_with fail
                        refine (HFi.out _).mono ?_
                        rintro e w9 ⟨rfl, hb9⟩
                        go_wp2_with fail
                        go_ret
                        exact ⟨rfl, hwf.trans ((hW.trans (hb9.mono hW.size)).mono hwf.size)⟩
            · rw [shB_f hV2] at HRV2
              clear hV2 HV0 HVs hs2 HI HIs HI2 HIF HSub HMF hbf hsf
              skip
              refine (HRV2.out _ hW).mono ?_
              rintro e y6 ⟨rfl, hc⟩
              have hW := hW.trans (hc.mono hW.size)
              have p0 := cell_below p0 hc
              have p1 := cell_below p1 hc
              have p2 := cell_below p2 hc
              have p3 := cell_below p3 hc
              have p4 := cell_below p4 hc
              have p5 := cell_below p5 hc
              have m0 := cell_below m0 hc
              have m1 := cell_below m1 hc
              have m2 := cell_below m2 hc
              have m3 := cell_below m3 hc
              have m4 := cell_below m4 hc
              have m5 := cell_below m5 hc
              have q0 := cell_below q0 hc
              have q1 := cell_below q1 hc
              have q2 := cell_below q2 hc
              have q3 := cell_below q3 hc
              have q4 := cell_below q4 hc
              clear hc
              go_wp2_with fail
              refine (HFi.out _).mono ?_
              rintro e w9 ⟨rfl, hb9⟩
              go_wp2_with fail
              go_ret
              exact ⟨rfl, hwf.trans ((hW.trans (hb9.mono hW.size)).mono hwf.size)⟩

  · rw [shB_f hV] at HRV
    clear hV hI
    go_enter Try.func17, Try.ntmps17
    go_wp2_with fail
    obtain ⟨wB, hwB⟩ : ∃ wB, (w.alloc (.cells #[.int .i64 s.O, .int .i64 s.C, .slice s.aH s.H.length s.cH, .int .i64 s.M, .slice s.aS s.S.length s.cS, .slice s.aJ s.J.length s.cJ] 25)).alloc (.cells #[.int .u16 x0, .int .u16 x1, .int .u16 x2, .int .u8 x3, .int .u8 x4] 70) = wB := ⟨_, rfl⟩
    have hB : ShBox w wB s := by rw [← hwB]; exact hB.on ((Below.refl _ _).alloc (Nat.le_refl _) _)
    have q0 : wB.cell? ⟨w.heap.size + 1, 0, none⟩ = some (.int .u16 x0) := by rw [← hwB]; simp [go_sem]
    have q1 : wB.cell? ⟨w.heap.size + 1, 1, none⟩ = some (.int .u16 x1) := by rw [← hwB]; simp [go_sem]
    have q2 : wB.cell? ⟨w.heap.size + 1, 2, none⟩ = some (.int .u16 x2) := by rw [← hwB]; simp [go_sem]
    have q3 : wB.cell? ⟨w.heap.size + 1, 3, none⟩ = some (.int .u8 x3) := by rw [← hwB]; simp [go_sem]
    have q4 : wB.cell? ⟨w.heap.size + 1, 4, none⟩ = some (.int .u8 x4) := by rw [← hwB]; simp [go_sem]
    rw [hwB]
    clear hwB
    refine (HLo.out _ hB.1).mono ?_
    rintro e w1 ⟨⟨b, rfl⟩, hb1⟩
    have HB := Lib.hid (hB.on hb1)
    obtain ⟨hb, p0, p1, p2, p3, p4, p5⟩ := hB.on hb1
    clear hb1 hB
    cases b with
    | true =>
      go_wp2_with fail
      refine (HFi.out _).mono ?_
      rintro e w9 ⟨rfl, hb9⟩
      go_wp2_with fail
      go_ret
      exact ⟨rfl, hb.trans (hb9.mono hb.size)⟩
    | false =>
      go_wp2_with fail
      refine (HRV.out _ hb).mono ?_
      rintro e w2 ⟨rfl, hb2⟩
      have HB2 := Lib.hid (HB.out.on hb2)
      obtain ⟨hb, p0, p1, p2, p3, p4, p5⟩ := HB.out.on hb2
      clear hb2 HB
      go_wp2_with fail
      refine (HFi.out _).mono ?_
      rintro e w9 ⟨rfl, hb9⟩
      go_wp2_with fail
      go_ret
      exact ⟨rfl, hb.trans (hb9.mono hb.size)⟩
end Go.Proofs.Ytmdifgkalooaoaa
