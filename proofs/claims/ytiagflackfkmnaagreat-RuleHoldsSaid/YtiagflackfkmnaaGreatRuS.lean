/-
  The first loop of rowOf of package rule. By an AI agent.
-/
import Derived.Test.YtiagflackfkmnaaGreatRuT
import Derived.Deep.RegionHeld3
import Derived.Deep.AppendLies
import Derived.BigQuiet
import Derived.BigRegion
namespace Go.Proofs.YtiagflackfkmnaaGreat
set_option linter.unusedVariables false
set_option linter.unusedSimpArgs false
open Go.RowKit

theorem infoP : (Tryz.prog.info? 82).map (fun i => (i.zero, i.size, i.bytes)) = some (some (.agg #[.int .i64 0, .int .i64 0, .int .i64 0, .int .i64 0, .int .i64 0, .int .i64 0, .int .i64 0, .int .i64 0, .slice none 0 0, .int .i64 0, .int .i64 0, .bool false]), 12, 112) := by kernel_rfl
/-- Is a sign of the row? -/
def selB (dir h : Int) (s : Sgn) : Bool := (s.d == dir) && spkB s h
def mkP (L : Int) (js : List Int) (dir : Int) (s : Sgn) : Pst := ⟨s, dstK L dir s.c, opnK L js dir (dstK L dir s.c) js.length, false⟩
/-- The row of the first k signs, not yet in order. -/
def rowK (L : Int) (js : List Int) (dir h : Int) (l : List Sgn) (ad : Nat → Option Addr) (cp : Nat → Nat) : Nat → List PE
  | 0 => []
  | k + 1 => if selB dir h (gs l k) = true then rowK L js dir h l ad cp k ++ [(mkP L js dir (gs l k), ad k, cp k)] else rowK L js dir h l ad cp k
theorem rowK_len (L : Int) (js : List Int) (dir h : Int) (l : List Sgn) (ad : Nat → Option Addr) (cp : Nat → Nat) : ∀ k, (rowK L js dir h l ad cp k).length ≤ k
  | 0 => Nat.le_refl _
  | k + 1 => by
    have := rowK_len L js dir h l ad cp k
    rw [rowK]; split
    · simp; omega
    · omega
theorem rowK_mem (L : Int) (js : List Int) (dir h : Int) (l : List Sgn) (ad : Nat → Option Addr) (cp : Nat → Nat) (x : PE) : ∀ k, x ∈ rowK L js dir h l ad cp k → ∃ j, j < k ∧ x = (mkP L js dir (gs l j), ad j, cp j)
  | 0, hx => by simp [rowK] at hx
  | k + 1, hx => by
    rw [rowK] at hx
    split at hx
    · rw [List.mem_append] at hx
      rcases hx with hx | hx
      · obtain ⟨j, hj, e⟩ := rowK_mem L js dir h l ad cp x k hx
        exact ⟨j, by omega, e⟩
      · exact ⟨k, by omega, by simpa using hx⟩
    · obtain ⟨j, hj, e⟩ := rowK_mem L js dir h l ad cp x k hx
      exact ⟨j, by omega, e⟩
/-- A row comes back: the signs that speak, in order, and what the second loop has made of them. -/
def RowE (L : Int) (js : List Int) (dir h : Int) (l : List Sgn) (w : World) (e : Ending) (w' : World) : Prop :=
  ∃ (ad : Nat → Option Addr) (cp : Nat → Nat) (l1 : List PE) (a : Option Addr) (c : Nat), l1.Perm (rowK L js dir h l ad cp l.length) ∧ (∀ i j, i < j → j < l1.length → ¬ ahdP l1[j]!.1 l1[i]!.1) ∧
    e = .returned (.slice a l1.length c) ∧ PstS w' a ((finP l1 (l1.length - 1)).map (·.1)) ∧ Below w.heap.size w w'
set_option maxRecDepth 100000 in
set_option maxHeartbeats 4000000 in
theorem rowOf_r (L : Int) (a : Option Addr) (js : List Int) (ca : Nat) (aa : Option Addr) (l : List Sgn) (cl : Nat) (h dir : Int) (hL1 : 0 ≤ L) (hL2 : L ≤ 100000) (hJ : ∀ j, j < js.length → 0 ≤ gi js j ∧ gi js j ≤ 100000) (hC : ∀ j, j < l.length → 0 ≤ (gs l j).c ∧ (gs l j).c ≤ 100000 ∧ -1000000 ≤ (gs l j).v ∧ (gs l j).v ≤ 1000000) (hn : l.length ≤ 1000) (w : World) (hI : IntsS w a js) (hA : SgnS w aa l) :
    Calls Tryz.prog 47 #[.agg #[.int .i64 L, .slice a js.length ca], .slice aa l.length cl, .int .i64 h, .int .i64 dir] w (RowE L js dir h l w) := by
  obtain ⟨hlen, blk, off, ad, cp, hadr, hc⟩ := hA
  have HC := Lib.hid hc
  have HI := Lib.hid hI
  have HL : Hid (0 < l.length → aa = some ⟨blk, off, none⟩) := Lib.hid fun h => hadr (pos_ne (n := 0) h)
  have HJ := Lib.hid hJ
  have HCh := Lib.hid hC
  obtain ⟨n0, hi, hz0, hz1, hz2⟩ := info_parts infoP
  clear hc hadr hI hJ hC
  go_enter Tryz.func47, Tryz.ntmps47
  go_wp2_with fail
  obtain ⟨wo, hwo⟩ : ∃ wo, w.alloc (.cells #[.int .i64 L, .slice a js.length ca] 24) = wo := ⟨_, rfl⟩
  have hbo : Below w.heap.size w wo := by rw [← hwo]; exact (Below.refl _ _).alloc (Nat.le_refl _) _
  have p0 : wo.cell? ⟨w.heap.size, 0, none⟩ = some (.int .i64 L) := by rw [← hwo]; simp [go_sem]
  have p1 : wo.cell? ⟨w.heap.size, 1, none⟩ = some (.slice a js.length ca) := by rw [← hwo]; simp [go_sem]
  rw [hwo]
  clear hwo
  have P0 := Lib.hid p0
  have P1 := Lib.hid p1
  clear p0 p1
  go_loopw [9, 18] (fun q i wr => ∃ k : Nat, k ≤ l.length ∧ i = .int .i64 k ∧ (∃ a c, q = .slice a (rowK L js dir h l ad cp k).length c) ∧ Hid (wr.ownsRow wo.heap.size 82 12 q (rowK L js dir h l ad cp k).length (clP (rowK L js dir h l ad cp k))) ∧ Below wo.heap.size wo wr) (fun _ i _ => l.length - (intOf i).toNat)
  case atStart => exact ⟨0, Nat.zero_le _, rfl, ⟨none, 0, rfl⟩, Lib.hid ⟨rfl, .inl ⟨rfl, rfl⟩⟩, Below.refl _ _⟩
  case round =>
    obtain ⟨k, hk, rfl, ⟨av, cv, rfl⟩, HRow, hbr⟩ := hrel
    have hbw := below_onR hbo hbr
    have hRl := rowK_len L js dir h l ad cp k
    by_cases hlt : k < l.length
    · obtain rfl := HL.out (by omega)
      obtain ⟨⟨c0, c1, c2, c3, c4, c5, c6, c7⟩, c8, hpr⟩ := HC.out k hlt
      have c0 := cell_below c0 hbw
      have c1 := cell_below c1 hbw
      have c2 := cell_below c2 hbw
      have c3 := cell_below c3 hbw
      have c4 := cell_below c4 hbw
      have c5 := cell_below c5 hbw
      have c6 := cell_below c6 hbw
      have c7 := cell_below c7 hbw
      have c8 := cell_below c8 hbw
      have hcc := HCh.out k hlt
      have HN : Hid (rowK L js dir h l ad cp (k + 1) = if selB dir h (gs l k) = true then rowK L js dir h l ad cp k ++ [(mkP L js dir (gs l k), ad k, cp k)] else rowK L js dir h l ad cp k) := Lib.hid rfl
      have HSel : Hid (selB dir h (gs l k) = (((gs l k).d == dir) && spkB (gs l k) h)) := Lib.hid rfl
      have HMk : Hid (mkP L js dir (gs l k) = ⟨gs l k, dstK L dir (gs l k).c, opnK L js dir (dstK L dir (gs l k).c) js.length, false⟩) := Lib.hid rfl
      have HSp := Lib.hid (fun W (hW : Below w.heap.size w W) => Speaks_r (gs l k) (ad k) (cp k) h W (hpr.below hW))
      have HDi := Lib.hid (fun W => distance_r L a js.length ca dir (gs l k).c hL1 hL2 (by omega) (by omega) W)
      have HOp := Lib.hid (fun W (hW : Below w.heap.size w W) => openUntil_r L a js ca dir (dstK L dir (gs l k).c) hL1 hL2 HJ.out W (HI.out.below hW))
      clear HC HL HCh HI HJ hpr hcc
      obtain ⟨R, hR⟩ : ∃ R, rowK L js dir h l ad cp k = R := ⟨_, rfl⟩
      rw [hR] at HN HRow hRl ⊢
      clear hR
      obtain ⟨s, hs⟩ : ∃ s, gs l k = s := ⟨_, rfl⟩
      rw [hs] at HN HSel HMk HSp HDi HOp c0 c1 c2 c3 c4 c5 c6 c7 c8
      clear hs
      generalize ad k = adk at *
      generalize cp k = cpk at *
      have hbs := hbr.size
      have HNe : Hid (some wr.heap.size ≠ (Value.slice av R.length cv).ownBlock) := Lib.hid fun e => by
        rcases HRow.out.2 with ⟨h1, _⟩ | ⟨g2, c2, cur, h1, h2, h3, _⟩
        · rw [h1] at e; simp [Value.ownBlock] at e
        · rw [h1] at e; simp [Value.ownBlock] at e
          have := (Array.getElem?_eq_some_iff.1 h3).1
          omega
      have hbB : Below wo.heap.size wo (wr.alloc (.cells #[.int .i64 s.n, .int .i64 s.k, .int .i64 s.v, .int .i64 s.c, .int .i64 s.d, .int .i64 s.rk, .int .i64 s.up, .int .i64 s.dn, .slice adk s.cv.length cpk] 34)) := hbr.alloc hbs _
      have HRow := Lib.hid (HRow.out.alloc (.cells #[.int .i64 s.n, .int .i64 s.k, .int .i64 s.v, .int .i64 s.c, .int .i64 s.d, .int .i64 s.rk, .int .i64 s.up, .int .i64 s.dn, .slice adk s.cv.length cpk] 34))
      have hzB : wr.heap.size < (wr.alloc (.cells #[.int .i64 s.n, .int .i64 s.k, .int .i64 s.v, .int .i64 s.c, .int .i64 s.d, .int .i64 s.rk, .int .i64 s.up, .int .i64 s.dn, .slice adk s.cv.length cpk] 34)).heap.size := by simp
      have s0 : (wr.alloc (.cells #[.int .i64 s.n, .int .i64 s.k, .int .i64 s.v, .int .i64 s.c, .int .i64 s.d, .int .i64 s.rk, .int .i64 s.up, .int .i64 s.dn, .slice adk s.cv.length cpk] 34)).cell? ⟨wr.heap.size, 0, none⟩ = some (.int .i64 s.n) := by simp [go_sem]
      have s1 : (wr.alloc (.cells #[.int .i64 s.n, .int .i64 s.k, .int .i64 s.v, .int .i64 s.c, .int .i64 s.d, .int .i64 s.rk, .int .i64 s.up, .int .i64 s.dn, .slice adk s.cv.length cpk] 34)).cell? ⟨wr.heap.size, 1, none⟩ = some (.int .i64 s.k) := by simp [go_sem]
      have s2 : (wr.alloc (.cells #[.int .i64 s.n, .int .i64 s.k, .int .i64 s.v, .int .i64 s.c, .int .i64 s.d, .int .i64 s.rk, .int .i64 s.up, .int .i64 s.dn, .slice adk s.cv.length cpk] 34)).cell? ⟨wr.heap.size, 2, none⟩ = some (.int .i64 s.v) := by simp [go_sem]
      have s3 : (wr.alloc (.cells #[.int .i64 s.n, .int .i64 s.k, .int .i64 s.v, .int .i64 s.c, .int .i64 s.d, .int .i64 s.rk, .int .i64 s.up, .int .i64 s.dn, .slice adk s.cv.length cpk] 34)).cell? ⟨wr.heap.size, 3, none⟩ = some (.int .i64 s.c) := by simp [go_sem]
      have s4 : (wr.alloc (.cells #[.int .i64 s.n, .int .i64 s.k, .int .i64 s.v, .int .i64 s.c, .int .i64 s.d, .int .i64 s.rk, .int .i64 s.up, .int .i64 s.dn, .slice adk s.cv.length cpk] 34)).cell? ⟨wr.heap.size, 4, none⟩ = some (.int .i64 s.d) := by simp [go_sem]
      have s5 : (wr.alloc (.cells #[.int .i64 s.n, .int .i64 s.k, .int .i64 s.v, .int .i64 s.c, .int .i64 s.d, .int .i64 s.rk, .int .i64 s.up, .int .i64 s.dn, .slice adk s.cv.length cpk] 34)).cell? ⟨wr.heap.size, 5, none⟩ = some (.int .i64 s.rk) := by simp [go_sem]
      have s6 : (wr.alloc (.cells #[.int .i64 s.n, .int .i64 s.k, .int .i64 s.v, .int .i64 s.c, .int .i64 s.d, .int .i64 s.rk, .int .i64 s.up, .int .i64 s.dn, .slice adk s.cv.length cpk] 34)).cell? ⟨wr.heap.size, 6, none⟩ = some (.int .i64 s.up) := by simp [go_sem]
      have s7 : (wr.alloc (.cells #[.int .i64 s.n, .int .i64 s.k, .int .i64 s.v, .int .i64 s.c, .int .i64 s.d, .int .i64 s.rk, .int .i64 s.up, .int .i64 s.dn, .slice adk s.cv.length cpk] 34)).cell? ⟨wr.heap.size, 7, none⟩ = some (.int .i64 s.dn) := by simp [go_sem]
      have s8 : (wr.alloc (.cells #[.int .i64 s.n, .int .i64 s.k, .int .i64 s.v, .int .i64 s.c, .int .i64 s.d, .int .i64 s.rk, .int .i64 s.up, .int .i64 s.dn, .slice adk s.cv.length cpk] 34)).cell? ⟨wr.heap.size, 8, none⟩ = some (.slice adk s.cv.length cpk) := by simp [go_sem]
      have p0 := cell_below P0.out hbB
      have p1 := cell_below P1.out hbB
      obtain ⟨wB, hwB⟩ : ∃ wB, wr.alloc (.cells #[.int .i64 s.n, .int .i64 s.k, .int .i64 s.v, .int .i64 s.c, .int .i64 s.d, .int .i64 s.rk, .int .i64 s.up, .int .i64 s.dn, .slice adk s.cv.length cpk] 34) = wB := ⟨_, rfl⟩
      rw [hwB] at hbB HRow hzB s0 s1 s2 s3 s4 s5 s6 s7 s8 p0 p1
      by_cases hd : s.d = dir
      · have bd : (s.d == dir) = true := by simp [hd]
        clear hd
        have hzl := block_lt p0
        cases hsp : spkB s h with
        | false =>
          rw [hsp] at HSp
          have HNn : Hid (rowK L js dir h l ad cp (k + 1) = R) := Lib.hid (by rw [HN.out, if_neg (by rw [HSel.out, hsp]; simp)])
          clear HN HSel HMk HDi HOp
          go_wp2_with (go_at_call 13; refine (HSp.out _ (below_onR hbo hbB)).mono ?_; rintro e w7 ⟨rfl, hb7⟩)
          go_roundw
          case rel => exact ⟨k + 1, by omega, by go_num, ⟨_, cv, by rw [HNn.out]⟩, Lib.hid (by rw [HNn.out]; exact owns_belowI HRow.out hb7), hbB.trans (hb7.mono hbB.size)⟩
          case measure => simp [intOf]; omega
        | true =>
          rw [hsp] at HSp
          have HNn : Hid (rowK L js dir h l ad cp (k + 1) = R ++ [(mkP L js dir s, adk, cpk)]) := Lib.hid (by rw [HN.out, if_pos (by rw [HSel.out, hsp, bd]; rfl)])
          have HE : Hid (clP (rowK L js dir h l ad cp (k + 1)) = clP R ++ [.int .i64 s.n, .int .i64 s.k, .int .i64 s.v, .int .i64 s.c, .int .i64 s.d, .int .i64 s.rk, .int .i64 s.up, .int .i64 s.dn, .slice adk s.cv.length cpk, .int .i64 (dstK L dir s.c), .int .i64 (opnK L js dir (dstK L dir s.c) js.length), .bool false] ∧ (rowK L js dir h l ad cp (k + 1)).length = R.length + 1) := Lib.hid (by rw [HNn.out, clP_app, HMk.out]; exact ⟨rfl, by simp⟩)
          clear HN HSel HMk HNn
          generalize opnK L js dir (dstK L dir s.c) js.length = U at *
          generalize dstK L dir s.c = D at *
          go_wp2_with (first
            | (go_at_call 13
               refine (HSp.out _ (below_onR hbo hbB)).mono ?_
               rintro e w9 ⟨rfl, hb9⟩
               have hzs := hzB
               have s0 := (hb9.cell (p := ⟨wr.heap.size, 0, none⟩) hzs).trans s0
               have s1 := (hb9.cell (p := ⟨wr.heap.size, 1, none⟩) hzs).trans s1
               have s2 := (hb9.cell (p := ⟨wr.heap.size, 2, none⟩) hzs).trans s2
               have s3 := (hb9.cell (p := ⟨wr.heap.size, 3, none⟩) hzs).trans s3
               have s4 := (hb9.cell (p := ⟨wr.heap.size, 4, none⟩) hzs).trans s4
               have s5 := (hb9.cell (p := ⟨wr.heap.size, 5, none⟩) hzs).trans s5
               have s6 := (hb9.cell (p := ⟨wr.heap.size, 6, none⟩) hzs).trans s6
               have s7 := (hb9.cell (p := ⟨wr.heap.size, 7, none⟩) hzs).trans s7
               have s8 := (hb9.cell (p := ⟨wr.heap.size, 8, none⟩) hzs).trans s8
               have p0 := (hb9.cell (p := ⟨w.heap.size, 0, none⟩) hzl).trans p0
               have p1 := (hb9.cell (p := ⟨w.heap.size, 1, none⟩) hzl).trans p1
               have hbB := hbB.trans (hb9.mono hbB.size)
               have HRow := Lib.hid (owns_belowI HRow.out hb9)
               have hzB := Nat.lt_of_lt_of_le hzB hb9.size
               have hzl := Nat.lt_of_lt_of_le hzl hb9.size)
            | (go_at_call 80
               refine (HDi.out _).mono ?_
               rintro e w9 ⟨rfl, hb9⟩
               have hzs := hzB
               have s0 := (hb9.cell (p := ⟨wr.heap.size, 0, none⟩) hzs).trans s0
               have s1 := (hb9.cell (p := ⟨wr.heap.size, 1, none⟩) hzs).trans s1
               have s2 := (hb9.cell (p := ⟨wr.heap.size, 2, none⟩) hzs).trans s2
               have s3 := (hb9.cell (p := ⟨wr.heap.size, 3, none⟩) hzs).trans s3
               have s4 := (hb9.cell (p := ⟨wr.heap.size, 4, none⟩) hzs).trans s4
               have s5 := (hb9.cell (p := ⟨wr.heap.size, 5, none⟩) hzs).trans s5
               have s6 := (hb9.cell (p := ⟨wr.heap.size, 6, none⟩) hzs).trans s6
               have s7 := (hb9.cell (p := ⟨wr.heap.size, 7, none⟩) hzs).trans s7
               have s8 := (hb9.cell (p := ⟨wr.heap.size, 8, none⟩) hzs).trans s8
               have p0 := (hb9.cell (p := ⟨w.heap.size, 0, none⟩) hzl).trans p0
               have p1 := (hb9.cell (p := ⟨w.heap.size, 1, none⟩) hzl).trans p1
               have hbB := hbB.trans (hb9.mono hbB.size)
               have HRow := Lib.hid (owns_belowI HRow.out hb9)
               have hzB := Nat.lt_of_lt_of_le hzB hb9.size
               have hzl := Nat.lt_of_lt_of_le hzl hb9.size))

          have hzl0 : w.heap.size < wo.heap.size := by have := block_lt P0.out; exact this
          obtain ⟨ws, rfl⟩ : ∃ wz : World, wz = w9 := ⟨_, rfl⟩
          refine wp_region_held_drew (S := fun w' => Below wo.heap.size ws w' ∧ w'.heap[wr.heap.size]? = ws.heap[wr.heap.size]?) (by kernel_rfl) ⟨(Below.refl _ _).drew, rfl⟩ (fun hHeld => ?_)
          refine takeU (i := 0) (some 36) (.slice av R.length cv) (by kernel_rfl) (by kernel_rfl) (by kernel_rfl) (by kernel_rfl) (by kernel_rfl) (fun _ => by kernel_rfl) (fun _ _ _ h => h) hHeld ?_
          refine wpAnyH_take (i := 1) (oi := { dst := some 37, op := Go.Op.load 34 (Go.Operand.tmp 11), type := 34, pos := "row.go:44", after := #[], guard := none }) (v := .agg #[.int .i64 s.n, .int .i64 s.k, .int .i64 s.v, .int .i64 s.c, .int .i64 s.d, .int .i64 s.rk, .int .i64 s.up, .int .i64 s.dn, .slice adk s.cv.length cpk]) rfl (by kernel_rfl) (by kernel_rfl) (by kernel_rfl) (fun _ _ _ h => h) (.inl ⟨by kernel_rfl, fun w9 h9 => by
            clear hHeld
            have d0 := (World.cell?_of_block (w := ws) (w' := w9) (a := ⟨wr.heap.size, 0, none⟩) h9.2).trans s0
            have d1 := (World.cell?_of_block (w := ws) (w' := w9) (a := ⟨wr.heap.size, 1, none⟩) h9.2).trans s1
            have d2 := (World.cell?_of_block (w := ws) (w' := w9) (a := ⟨wr.heap.size, 2, none⟩) h9.2).trans s2
            have d3 := (World.cell?_of_block (w := ws) (w' := w9) (a := ⟨wr.heap.size, 3, none⟩) h9.2).trans s3
            have d4 := (World.cell?_of_block (w := ws) (w' := w9) (a := ⟨wr.heap.size, 4, none⟩) h9.2).trans s4
            have d5 := (World.cell?_of_block (w := ws) (w' := w9) (a := ⟨wr.heap.size, 5, none⟩) h9.2).trans s5
            have d6 := (World.cell?_of_block (w := ws) (w' := w9) (a := ⟨wr.heap.size, 6, none⟩) h9.2).trans s6
            have d7 := (World.cell?_of_block (w := ws) (w' := w9) (a := ⟨wr.heap.size, 7, none⟩) h9.2).trans s7
            have d8 := (World.cell?_of_block (w := ws) (w' := w9) (a := ⟨wr.heap.size, 8, none⟩) h9.2).trans s8
            clear h9
            go_simp⟩) hHeld ?_
          refine takeU (i := 2) (some 38) (.int .i64 D) (by kernel_rfl) (by kernel_rfl) (by kernel_rfl) (by kernel_rfl) (by kernel_rfl) (fun _ => by kernel_rfl) (fun _ _ _ h => h) hHeld ?_
          refine wpAnyH_take (i := 3) (oi := { dst := some 39, op := Go.Op.load 24 (Go.Operand.tmp 4), type := 24, pos := "row.go:44", after := #[], guard := none }) (v := .agg #[.int .i64 L, .slice a js.length ca]) rfl (by kernel_rfl) (by kernel_rfl) (by kernel_rfl) (fun _ _ _ h => h) (.inl ⟨by kernel_rfl, fun w9 h9 => by
            clear hHeld
            have d0 := (h9.1.cell (p := ⟨w.heap.size, 0, none⟩) hzl0).trans p0
            have d1 := (h9.1.cell (p := ⟨w.heap.size, 1, none⟩) hzl0).trans p1
            clear h9
            go_simp⟩) hHeld ?_
          refine takeU (i := 4) (some 40) (.int .i64 dir) (by kernel_rfl) (by kernel_rfl) (by kernel_rfl) (by kernel_rfl) (by kernel_rfl) (fun _ => by kernel_rfl) (fun _ _ _ h => h) hHeld ?_
          refine takeU (i := 5) (some 41) (.int .i64 D) (by kernel_rfl) (by kernel_rfl) (by kernel_rfl) (by kernel_rfl) (by kernel_rfl) (fun _ => by kernel_rfl) (fun _ _ _ h => h) hHeld ?_
          try simp only [Act.put, List.setIfInBounds_toArray, List.set_cons_zero, List.set_cons_succ]
          refine wpAnyH_ready (rs := [6]) (by kernel_rfl) (by simp) ?_
          refine AllReadyH.cons (o := { dst := some 42, op := Go.Op.call { callee := Go.Callee.value (Go.Operand.func 81), args := #[Go.Operand.tmp 39, Go.Operand.tmp 40, Go.Operand.tmp 41], argTypes := #[24, 3, 3] }, type := 3, pos := "row.go:44", after := #[{ on := 3, ground := Go.Ground.data }, { on := 4, ground := Go.Ground.data }, { on := 5, ground := Go.Ground.data }], guard := none }) rfl (fun K hK => ?_) AllReadyH.nil
          go_simp
          go_at_call 81
          refine (HOp.out _ ((below_onR hbo hbB).trans (hHeld.1.mono hbo.size))).mono ?_
          rintro e w8 ⟨rfl, hb8⟩
          have hb8w : Below ws.heap.size ws w8 := ((Below.refl ws.heap.size ws).drew).trans hb8
          have hs8 := hb8w.size
          have hsB := hbB.size
          refine hK.out _ _ ⟨hHeld.1.trans (hb8.mono (by have := hHeld.1.size; omega)), (hb8.block wr.heap.size (by have := hHeld.1.size; omega)).trans hHeld.2⟩ (fun hHeld => ?_)
          clear hK K hb8
          refine takeU (i := 7) (some 43) (.agg #[.int .i64 s.n, .int .i64 s.k, .int .i64 s.v, .int .i64 s.c, .int .i64 s.d, .int .i64 s.rk, .int .i64 s.up, .int .i64 s.dn, .slice adk s.cv.length cpk, .int .i64 D, .int .i64 U, .bool false]) (by kernel_rfl) (by kernel_rfl) (by kernel_rfl) (by kernel_rfl) (by kernel_rfl) (fun _ => by kernel_rfl) (fun _ _ _ h => h) hHeld ?_
          try simp only [Act.put, List.setIfInBounds_toArray, List.set_cons_zero, List.set_cons_succ]
          refine wpAnyH_ready (rs := [8]) (by kernel_rfl) (by simp) ?_
          refine AllReadyH.cons (o := { dst := some 44, op := Go.Op.buildSlice 79 1 #[(0, Go.Operand.tmp 43)], type := 79, pos := "row.go:44", after := #[{ on := 7, ground := Go.Ground.data }], guard := none }) rfl (fun K hK => ?_) AllReadyH.nil
          go_simp
          refine hK.out _ _ ⟨hHeld.1.alloc (by omega) _, (Below.heap_alloc _ _ _ (by omega)).trans hHeld.2⟩ (fun hHeld => ?_)
          clear hK K
          refine wpAnyH_ready (rs := [9]) (by kernel_rfl) (by simp) ?_
          refine AllReadyH.cons (o := { dst := some 45, op := Go.Op.call { callee := Go.Callee.builtin Go.Builtin.append, args := #[Go.Operand.tmp 36, Go.Operand.tmp 44], argTypes := #[79, 79] }, type := 79, pos := "row.go:44", after := #[{ on := 0, ground := Go.Ground.data }, { on := 8, ground := Go.Ground.data }, { on := 6, ground := Go.Ground.chain }], guard := none }) rfl (fun K hK => ?_) AllReadyH.nil
          refine step_append_lies _ (by rfl) _ _ _ (by rfl) wo.heap.size 82 n0 _ 12 112 Tryz.underlying79 hi hz0 hz1 hz2 rfl (by decide) (.slice av R.length cv) R.length _ (by rfl) (owns_belowI HRow.out (hb8w.alloc hs8 _)) ⟨w8.heap.size, 0, none⟩ 1 1 [.int .i64 s.n, .int .i64 s.k, .int .i64 s.v, .int .i64 s.c, .int .i64 s.d, .int .i64 s.rk, .int .i64 s.up, .int .i64 s.dn, .slice adk s.cv.length cpk, .int .i64 D, .int .i64 U, .bool false] (by rfl) (by rfl) (World.news_of_block (w := w8.alloc (.cells #[.int .i64 s.n, .int .i64 s.k, .int .i64 s.v, .int .i64 s.c, .int .i64 s.d, .int .i64 s.rk, .int .i64 s.up, .int .i64 s.dn, .slice adk s.cv.length cpk, .int .i64 D, .int .i64 U, .bool false] 82)) (B := w8.heap.size) (cs := #[.int .i64 s.n, .int .i64 s.k, .int .i64 s.v, .int .i64 s.c, .int .i64 s.d, .int .i64 s.rk, .int .i64 s.up, .int .i64 s.dn, .slice adk s.cv.length cpk, .int .i64 D, .int .i64 U, .bool false]) (t := 82) (fr := (0, 0)) (heap_alloc_new _ _)) (by simp [Value.oneCell']) (by decide) (by unfold maxLen; omega) (by omega) (by simp; omega) _ rfl ?_
          intro g6 c6 w6 hown6 hgrow6 hat6 hlt6
          refine hK.out _ _ ⟨hHeld.1.grown hgrow6 (by simp; omega) (fun z hz => owns_blockI HRow.out hz), (hgrow6.block wr.heap.size (by simp; omega) HNe.out).trans hHeld.2⟩ (fun hHeld => ?_)
          have hb6 : Below wo.heap.size wo w6 := hbB.trans hHeld.1
          have hown6 := Lib.hid hown6
          clear hK K hgrow6 hat6 hlt6
          try simp only [Act.put, List.setIfInBounds_toArray, List.set_cons_zero, List.set_cons_succ]
          refine takeU (i := 10) (some 9) (.slice (some ⟨g6, 0, none⟩) (R.length + 1) c6) (by kernel_rfl) (by kernel_rfl) (by kernel_rfl) (by kernel_rfl) (by kernel_rfl) (fun _ => by kernel_rfl) (fun _ _ _ h => h) hHeld ?_
          refine wpAnyH_done (by kernel_rfl) ?_ _
          try simp only [Act.put, List.setIfInBounds_toArray, List.set_cons_zero, List.set_cons_succ]
          go_wp2_with fail
          go_roundw
          case rel => exact ⟨k + 1, by omega, by go_num, ⟨some ⟨g6, 0, none⟩, c6, by rw [HE.out.2]⟩, Lib.hid (by rw [HE.out.1, HE.out.2]; exact hown6.out), hb6⟩
          case measure => simp [intOf]; omega

      · have bd : (s.d == dir) = false := beq_false_of_ne hd
        have HNn : Hid (rowK L js dir h l ad cp (k + 1) = R) := Lib.hid (by rw [HN.out, if_neg (by rw [HSel.out, bd]; simp)])
        clear HN HSel HMk HDi HOp HSp
        go_wp2_with fail
        go_roundw
        case rel => exact ⟨k + 1, by omega, by go_num, ⟨_, cv, by rw [HNn.out]⟩, Lib.hid (by rw [HNn.out]; exact HRow.out), hbB⟩
        case measure => simp [intOf]; omega
    · obtain rfl : k = l.length := by omega
      have HPr : Hid (∀ j, j < l.length → PairsS w (ad j) (gs l j).cv) := Lib.hid fun j hj => (HC.out j hj).2.2
      have HMem := Lib.hid (rowK_mem L js dir h l ad cp)
      have HMe := Lib.hid (fun x => HMem.out x l.length)
      have HCv := Lib.hid (fun j (hj : j < l.length) => (show (-1000000 ≤ (mkP L js dir (gs l j)).d ∧ (mkP L js dir (gs l j)).d ≤ 1000000) ∧ -1000000 ≤ (mkP L js dir (gs l j)).s.v ∧ (mkP L js dir (gs l j)).s.v ≤ 1000000 from ⟨dst_bound hL1 hL2 (HCh.out j hj).1 (HCh.out j hj).2.1, (HCh.out j hj).2.2⟩))
      have HRE : Hid (∀ (l1 : List PE) (a9 : Option Addr) (c9 : Nat) (e : Ending) (w' : World), l1.Perm (rowK L js dir h l ad cp l.length) → (∀ i j, i < j → j < l1.length → ¬ ahdP l1[j]!.1 l1[i]!.1) → e = .returned (.slice a9 l1.length c9) → PstS w' a9 ((finP l1 (l1.length - 1)).map (·.1)) → Below w.heap.size w w' → RowE L js dir h l w e w') := Lib.hid fun l1 a9 c9 e w' h1 h2 h3 h4 h5 => ⟨ad, cp, l1, a9, c9, h1, h2, h3, h4, h5⟩
      clear HC HL HCh HI HJ HMem
      obtain ⟨R, hR⟩ : ∃ R, rowK L js dir h l ad cp l.length = R := ⟨_, rfl⟩
      rw [hR] at HRow hRl ⊢
      simp only [hR] at HMe HRE
      clear hR
      have hsr := hbr.size
      have HAv : Hid (0 < R.length → ∃ g, av = some ⟨g, 0, none⟩) := Lib.hid fun h0 => by
        obtain ⟨g, c, h1, -, -⟩ := World.ownsRow.form HRow.out h0
        exact ⟨g, by simpa using (Value.slice.inj h1).1⟩
      obtain ⟨ws, rfl⟩ : ∃ wz : World, wz = wr := ⟨_, rfl⟩
      have hq9 : ∀ g, av = some ⟨g, 0, none⟩ → g < ws.heap.size := fun g hg => (World.ownsRow.lt HRow.out g (by rw [hg]; rfl)).2
      have HQ9 := Lib.hid hq9
      clear hq9
      go_wp2_with (first
        | (go_at_call 83
           refine (by0_r ws.heap.size _).mono ?_
           rintro e w5 ⟨B5, rfl, hB5, cB5, hb5⟩
           have f0 : (ws.alloc (.cells #[.func (.func 84) #[] #[], .func (.func 85) #[] #[], .func (.func 86) #[] #[]] 108)).cell? ⟨ws.heap.size, 0, none⟩ = some (.func (.func 84) #[] #[]) := by simp [go_sem]
           have f1 : (ws.alloc (.cells #[.func (.func 84) #[] #[], .func (.func 85) #[] #[], .func (.func 86) #[] #[]] 108)).cell? ⟨ws.heap.size, 1, none⟩ = some (.func (.func 85) #[] #[]) := by simp [go_sem]
           have f2 : (ws.alloc (.cells #[.func (.func 84) #[] #[], .func (.func 85) #[] #[], .func (.func 86) #[] #[]] 108)).cell? ⟨ws.heap.size, 2, none⟩ = some (.func (.func 86) #[] #[]) := by simp [go_sem]
           replace f0 := cell_below f0 hb5
           replace f1 := cell_below f1 hb5
           replace f2 := cell_below f2 hb5
           have hb5s : Below ws.heap.size ws w5 := ((Below.refl _ _).alloc (Nat.le_refl _) _).trans (hb5.mono (by simp))
           have HS5 := Lib.hid (sortRow_r wo.heap.size B5 ws.heap.size cv av R w5 (owns_belowI HRow.out hb5s) (by omega) cB5 f0 f1 f2 (fun g hg => by have := HQ9.out g hg; simp at hB5; omega)))
        | (go_at_call 82
           (with_reducible refine HS5.out.mono ?_)
           rintro e w6 ⟨rfl, l1, hp1, hs1, hc1, hb6⟩
           have HP1 := Lib.hid hp1
           have HS1 := Lib.hid hs1
           have HC1 := Lib.hid hc1
           have hl1 := hp1.length_eq
           clear hp1 hs1 hc1))
      obtain ⟨wt, rfl⟩ : ∃ wz : World, wz = w6 := ⟨_, rfl⟩
      have hn1 : l1.length = R.length := hl1
      have HLen := Lib.hid hl1
      clear hl1 hn1
      have hbt : Below wo.heap.size wo wt := hbr.trans ((hb5s.mono hsr).trans hb6)
      have HPt : Hid (∀ x, x ∈ l1 → (∃ j, j < l.length ∧ x = (mkP L js dir (gs l j), ad j, cp j)) ) := Lib.hid fun x hx => HMe.out x (HP1.out.mem_iff.1 hx)
      clear hb5 hb5s hb6 f0 f1 f2 cB5 HS5 HQ9 hB5 HRow
      rcases Nat.eq_zero_or_pos R.length with hn0 | hn0
      · have hn1 : ¬ ((1 : Int) < (R.length : Int)) := by omega
        have HN0 := Lib.hid hn0
        clear hn0
        refine wp_loop_rounds 1 ?_
        rw [rounds_succ]
        go_wp2_with fail
        go_ret
        have h0 : l1 = [] := List.eq_nil_of_length_eq_zero (by rw [HLen.out, HN0.out])
        exact HRE.out l1 av cv _ _ HP1.out HS1.out (by rw [HLen.out]; rfl) (by rw [h0]; exact ⟨by simp [finP], 0, 0, fun _ => none, fun _ => 0, fun hh => absurd rfl hh, fun i hi => absurd hi (by simp [finP])⟩) (hbo.trans (hbt.mono hbo.size))
      · obtain ⟨g, rfl⟩ := HAv.out hn0
        obtain ⟨hgw, hcel⟩ := HC1.out g rfl
        have HCel : Hid (CelP wt g (clP (finP l1 0))) := Lib.hid hcel
        clear hcel HC1 HAv
        have HFl := Lib.hid (finP_len l1)
        have HFk := Lib.hid (finP_keeps l1)
        have HEl : Hid (∀ j : Nat, j < R.length → (-1000000 ≤ l1[j]!.1.d ∧ l1[j]!.1.d ≤ 1000000) ∧ -1000000 ≤ l1[j]!.1.s.v ∧ l1[j]!.1.s.v ≤ 1000000) := Lib.hid fun j hj => by
          have hj2 : j < l1.length := by rw [HLen.out]; exact hj
          obtain ⟨m, hm, e⟩ := HPt.out l1[j]! (by rw [getElem!_pos _ j hj2]; exact List.getElem_mem hj2)
          rw [e]
          exact HCv.out m hm
        clear HCv
        go_wp2_with fail
        go_loopw [13] (fun i9 wr => ∃ i : Nat, 1 ≤ i ∧ i ≤ R.length ∧ i9 = .int .i64 i ∧ Below wo.heap.size wt wr ∧ Hid (CelP wr g (clP (finP l1 (i - 1))))) (fun i9 _ => R.length - (intOf i9).toNat)
        case atStart => exact ⟨1, Nat.le_refl _, hn0, rfl, Below.refl _ _, HCel⟩
        case round =>
          clear HCel
          obtain ⟨i, hi1, hi2, rfl, hbi, HCi⟩ := hrel
          by_cases hlt : i < R.length
          · obtain ⟨t, ht⟩ : ∃ t, i - 1 = t := ⟨_, rfl⟩
            have ht2 : t + 1 = i := by omega
            rw [ht] at HCi
            have htl : t < R.length := by omega
            have hlF : (finP l1 t).length = R.length := (HFl.out t).trans HLen.out
            have HSt : Hid (finP l1 i = if cndP (finP l1 t)[t]!.1 (finP l1 t)[i]!.1 = true then ((finP l1 t).set i ({ (finP l1 t)[i]!.1 with b := true }, (finP l1 t)[i]!.2)).set t ({ (finP l1 t)[t]!.1 with u := min (finP l1 t)[t]!.1.u ((finP l1 t)[t]!.1.d + (finP l1 t)[i]!.1.s.v) }, (finP l1 t)[t]!.2) else finP l1 t) := Lib.hid (by rw [← ht2]; rfl)
            have kx := HFk.out t t (by rw [HLen.out]; exact htl)
            have ky := HFk.out t i (by rw [HLen.out]; exact htl)
            have ex := HEl.out t htl
            have ey := HEl.out i hlt
            rw [← kx.2.1, ← kx.1] at ex
            rw [← ky.2.1, ← ky.1] at ey
            clear kx ky
            obtain ⟨F, hF⟩ : ∃ F, finP l1 t = F := ⟨_, rfl⟩
            rw [hF] at HSt HCi hlF ex ey
            have HlF := Lib.hid hlF
            obtain ⟨x1, x2, x9, x10, x11, xf10, xf11⟩ := celP_fields HCi.out (j := t) (by omega)
            obtain ⟨y1, y2, y9, y10, y11, yf10, yf11⟩ := celP_fields HCi.out (j := i) (by omega)
            have HCnd : Hid (cndP F[t]!.1 F[i]!.1 = ((topK F[t]!.1.s.k != 0) && ((F[i]!.1.s.k == 7) && (F[i]!.1.d == F[t]!.1.d)))) := Lib.hid rfl
            have HTq : Hid (∀ W, Calls Tryz.prog 87 #[.int .i64 F[t]!.1.s.k] W fun e w' => e = .returned (.int .i64 (topK F[t]!.1.s.k)) ∧ w' = W) := Lib.hid fun W => (topicOf_r F[t]!.1.s.k W).mono fun e w' h => ⟨h.1, h.2.symm⟩
            have HXY : Hid (F[t]!.1.s.k = F[t]!.1.s.k) := Lib.hid rfl
            obtain ⟨⟨xd0, xd1⟩, -⟩ := ex
            obtain ⟨⟨yd0, yd1⟩, yv0, yv1⟩ := ey
            have hwi : IntKind.i64.wrap ((i : Int) - 1) = (t : Int) := by rw [show (i : Int) - 1 = (t : Int) by omega]; exact IntWalk.i64_in _ (by omega)
            have ht0 : (0 : Int) ≤ (t : Int) := by omega
            have ht3 : (t : Int) < (R.length : Int) := by omega
            have hi0 : (0 : Int) ≤ (i : Int) := by omega
            have hi3 : (i : Int) < (R.length : Int) := by omega
            have HT2 := Lib.hid ht2
            have hti : t ≠ i := by omega
            clear hF hlF ht ht2 x2 x11 y10 xf11 yf10 HXY
            generalize hT' : topK F[t]!.1.s.k = T at *
            generalize hxk : F[t]!.1.s.k = xk at *
            generalize hxd : F[t]!.1.d = xd at *
            generalize hxu : F[t]!.1.u = xu at *
            generalize hyk : F[i]!.1.s.k = yk at *
            generalize hyv : F[i]!.1.s.v = yv at *
            generalize hyd : F[i]!.1.d = yd at *
            have HNM := Lib.hid (And.intro hxd (And.intro hxu hyv))
            clear hT' hxk hxd hxu hyk hyv hyd
            by_cases hT : T = 0
            · have hT1 : (T == 0) = true := by simp [hT]
              have hT2 : (T != 0) = false := by simp [hT]
              clear hT
              have HSt2 : Hid (finP l1 i = F) := Lib.hid (by rw [HSt.out, if_neg (by rw [HCnd.out]; rw [hT2]; simp)])
              clear HSt HCnd
              go_wp2_with fail
              go_quiet (fail)
              go_wp2_with fail
              go_quiet ((go_at_call 87; first | exact Calls.quiet_of_same (HTq.out _) | exact (HTq.out _).mono (fun e w' h => ⟨h.1, _, h.2⟩)))
              go_wp2_with fail
              go_roundw
              case rel => exact ⟨i + 1, by omega, by omega, by go_num, (by first | exact hbi | exact below_drewN hbi _ | exact below_drewN (below_drewN hbi _) _), Lib.hid (by rw [Nat.add_sub_cancel, HSt2.out]; exact HCi.out)⟩
              case measure => simp [intOf]; omega
            have hT1 : (T == 0) = false := by simpa using hT
            have hT2 : (T != 0) = true := by simpa using hT
            clear hT
            by_cases hK : yk = 7
            rotate_left
            · have hK1 : (yk == 7) = false := by simpa using hK
              clear hK
              have HSt2 : Hid (finP l1 i = F) := Lib.hid (by rw [HSt.out, if_neg (by rw [HCnd.out]; rw [hK1]; simp)])
              clear HSt HCnd
              go_wp2_with fail
              go_quiet (fail)
              go_wp2_with fail
              go_quiet ((go_at_call 87; first | exact Calls.quiet_of_same (HTq.out _) | exact (HTq.out _).mono (fun e w' h => ⟨h.1, _, h.2⟩)))
              go_wp2_with fail
              go_roundw
              case rel => exact ⟨i + 1, by omega, by omega, by go_num, (by first | exact hbi | exact below_drewN hbi _ | exact below_drewN (below_drewN hbi _) _), Lib.hid (by rw [Nat.add_sub_cancel, HSt2.out]; exact HCi.out)⟩
              case measure => simp [intOf]; omega
            have hK1 : (yk == 7) = true := by simpa using hK
            clear hK
            by_cases hD : yd = xd
            rotate_left
            · have hD1 : (yd == xd) = false := by simpa using hD
              clear hD
              have HSt2 : Hid (finP l1 i = F) := Lib.hid (by rw [HSt.out, if_neg (by rw [HCnd.out]; rw [hD1]; simp)])
              clear HSt HCnd
              go_wp2_with fail
              go_quiet (fail)
              go_wp2_with fail
              go_quiet ((go_at_call 87; first | exact Calls.quiet_of_same (HTq.out _) | exact (HTq.out _).mono (fun e w' h => ⟨h.1, _, h.2⟩)))
              go_wp2_with fail
              go_roundw
              case rel => exact ⟨i + 1, by omega, by omega, by go_num, (by first | exact hbi | exact below_drewN hbi _ | exact below_drewN (below_drewN hbi _) _), Lib.hid (by rw [Nat.add_sub_cancel, HSt2.out]; exact HCi.out)⟩
              case measure => simp [intOf]; omega
            have hD1 : (yd == xd) = true := by simpa using hD
            clear hD
            have HSt2 := Lib.hid (HSt.out.trans (if_pos (by rw [HCnd.out, hT2, hK1, hD1]; rfl)))
            clear HSt HCnd
            go_wp2_with fail
            go_quiet (fail)
            go_upto_region 14 with (fail)
            go_cut [89] (fun v wx => v = .bool true ∧ Below wo.heap.size wt wx ∧ Hid (CelP wx g (clP F)))
            case first =>
              go_quiet ((go_at_call 87; first | exact Calls.quiet_of_same (HTq.out _) | exact (HTq.out _).mono (fun e w' h => ⟨h.1, _, h.2⟩)))
              go_wp2_with fail
              go_meet
              exact ⟨rfl, (by first | exact below_drewN hbi _ | exact below_drewN (below_drewN hbi _) _), Lib.hid HCi.out⟩
            case rest =>
              obtain ⟨rfl, hbx, HCx⟩ := hcut
              obtain ⟨wq, rfl⟩ : ∃ wz : World, wz = wc := ⟨_, rfl⟩
              clear x1 x9 x10 xf10 y1 y2 y9 y11 yf11 HTq hbi HCi hT1 hT2 hK1 hD1
              obtain ⟨-, -, -, -, y11, -, yf11⟩ := celP_fields HCx.out (j := i) (by rw [HlF.out]; exact hlt)
              go_upto_region 16 with (fail)
              obtain ⟨wS, hwS⟩ : ∃ wS, wq.setCell ⟨g, i * 12 + 11, none⟩ (.bool true) = wS := ⟨_, rfl⟩
              have HCS : Hid (CelP wS g (clP (F.set i ({ F[i]!.1 with b := true }, F[i]!.2)))) := Lib.hid (by
                rw [← hwS, ← clP_setb F i true (by rw [HlF.out]; exact hlt)]
                exact HCx.out.set (by rw [clP_len, HlF.out]; omega))
              have hbS : Below wo.heap.size wt wS := by rw [← hwS]; exact hbx.setCell (p := ⟨g, i * 12 + 11, none⟩) hgw _
              rw [hwS]
              clear hwS hbx HCx y11 yf11
              obtain ⟨-, -, x9, x10, -, xf10, -⟩ := celP_fields HCS.out (j := t) (by rw [List.length_set, HlF.out]; exact htl)
              obtain ⟨-, y2, -, -, -, -, -⟩ := celP_fields HCS.out (j := i) (by rw [List.length_set, HlF.out]; exact hlt)
              rw [set_other F _ (fun e => hti e.symm), HNM.out.1] at x9
              rw [set_other F _ (fun e => hti e.symm), HNM.out.2.1] at x10
              rw [set_same F _ (by rw [HlF.out]; exact hlt)] at y2
              simp only [HNM.out.2.2] at y2
              have HFin : Hid (∀ v, v = min xu (xd + yv) → ∀ wz, CelP wz g (clP (F.set i ({ F[i]!.1 with b := true }, F[i]!.2))) → CelP (wz.setCell ⟨g, t * 12 + 10, none⟩ (.int .i64 v)) g (clP (finP l1 i))) := Lib.hid fun v hv wz hz => by
                have h9 := hz.set (j := t * 12 + 10) (v := .int .i64 v) (by rw [clP_len, List.length_set, HlF.out]; omega)
                rw [clP_setu _ t v (by rw [List.length_set, HlF.out]; exact htl), set_other F _ (fun e => hti e.symm)] at h9
                rw [HSt2.out, ← hv]
                exact h9
              have hws : IntKind.i64.wrap (xd + yv) = xd + yv := IntWalk.i64_in _ (by omega)
              clear HSt2 HNM
              have hzs : g < wS.heap.size := block_lt x9
              have HFm := Lib.hid (HFin.out _ rfl)
              clear HFin
              go_still_tail 18, (by kernel_rfl)
              change wpList _ _ _ _ _ wS.drew
              have x10d : wS.drew.cell? ⟨g, t * 12 + 10, none⟩ = some (.int .i64 xu) := x10
              have xf10d : wS.drew.frozen? ⟨g, t * 12 + 10, none⟩ = false := xf10
              have hbd : Below wo.heap.size wt wS.drew := hbS.drew
              have HCd : Hid (CelP wS.drew g (clP (F.set i ({ F[i]!.1 with b := true }, F[i]!.2)))) := HCS
              clear x9 x10 xf10 y2 hbS HCS hzs
              generalize wS.drew = wd at *
              go_wp2_with fail
              go_roundw
              case rel => exact ⟨i + 1, by omega, by omega, by go_num, hbd.setCell (p := ⟨g, t * 12 + 10, none⟩) hgw _, Lib.hid (by rw [Nat.add_sub_cancel]; exact HFm.out _ HCd.out)⟩
              case measure => simp [intOf]; omega
          · obtain rfl : i = R.length := by omega
            have hbw := hbo.trans ((hbt.trans hbi).mono hbo.size)
            have HBW := Lib.hid hbw
            have HWs : Hid (Below wo.heap.size wo wr) := Lib.hid (hbt.trans hbi)
            clear hbw hbi
            go_wp2_with fail
            go_ret
            have hll : l1.length = R.length := HLen.out
            refine HRE.out l1 (some ⟨g, 0, none⟩) cv _ _ HP1.out HS1.out (by rw [HLen.out]; rfl) (pst_of (by rw [hll]; exact HCi.out) (by rw [HFl.out, hll]; omega) (fun m hm => ?_)) HBW.out
            rw [HFl.out] at hm
            obtain ⟨k1, k2, k3⟩ := HFk.out (l1.length - 1) m (by omega)
            rw [k1, k3]
            obtain ⟨j, hj, e⟩ := HPt.out l1[m]! (by rw [getElem!_pos _ m hm]; exact List.getElem_mem hm)
            rw [e]
            exact (HPr.out j hj).below HBW.out
end Go.Proofs.YtiagflackfkmnaaGreat
