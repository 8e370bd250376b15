/-
  further of package night. By an AI agent.
-/
import Derived.Test.YtghlhjiomebmhaaMgNightTours7
import Derived.Deep.RegionHeld3
import Derived.Deep.AppendLies
import Derived.BigQuiet
import Derived.BigRegion

namespace Go.Proofs.Ytghlhjiomebmhaa
set_option linter.unusedVariables false
set_option linter.unusedSimpArgs false
open Go.RowKit

theorem GrowR.set {base : Nat} {w : World} {v : Value} {k : Nat} {rows : Nat → List Int} (h : GrowR base w v k rows) {a : Addr} (ha : a.block < base) (u : Value) : GrowR base (w.setCell a u) v k rows := by
  obtain ⟨ad, cp, h1, h2⟩ := h
  refine ⟨ad, cp, owns_set h1 ha u, fun i hi => ⟨?_, (h2 i hi).2⟩⟩
  obtain ⟨blk, q1, q2⟩ := (h2 i hi).1
  refine ⟨blk, q1, fun j hj => ?_⟩
  have hl := (q1 (pos_ne (n := 0) hj)).2.2
  exact (World.cell?_setCell_far w a ⟨blk, j, none⟩ u (by simp; omega)).trans (q2 j hj)
/-- append of one int, in a region that draws. -/
theorem step_app_int {w : World} {ops : Array Oper} {o : Oper} {a : Act} {K : Act → World → Prop} {Q : Exit → Act → World → Prop} {E : Prop} (hgd : o.guard = none) (s x : Operand)
    (ho : o.op = .call { callee := .builtin .append, args := #[s, x], argTypes := #[26, 26] })
    (base n c : Nat) (b : Option Addr) (xs : List Value) (hs : a.eval s = .slice b n c) (hown : w.ownsRow base 3 1 (.slice b n c) n xs)
    (B : Nat) (u : Value) (hx : a.eval x = .slice (some ⟨B, 0, none⟩) 1 1) (hc : w.cell? ⟨B, 0, none⟩ = some u) (hu : u.oneCell' = true) (hn : n ≤ 1000000) (hbase : base ≤ w.heap.size)
    (h : ∀ g c' w', w'.ownsRow base 3 1 (.slice (some ⟨g, 0, none⟩) (n + 1) c') (n + 1) (xs ++ [u]) → Below base w w' → K (a.put o.dst (.slice (some ⟨g, 0, none⟩) (n + 1) c')) w') :
    if Region.wanted o (yielded ops a.tmps) = true then Oper.wp Try.prog o a w K Q else E := by
  obtain ⟨i0, hi, hz0, hz1, hz2⟩ := info_parts infoInt
  refine step_append_lies w hgd s x 26 ho base 3 i0 _ 1 8 undRow hi hz0 hz1 hz2 rfl (by decide) (.slice b n c) n xs hs hown ⟨B, 0, none⟩ 1 1 [u] hx rfl ?_ ?_ (by decide) (by unfold maxLen; omega) (by omega) hbase _ rfl ?_
  · intro j v hj
    match j, hj with
    | 0, hj => simp at hj; subst hj; exact hc
  · intro v hv; simp at hv; subst hv; exact hu
  · intro g c' w' h1 h2 h3 h4
    exact h g c' w' h1 ((Below.refl base w).grown h2 hbase (fun k hk => owns_blockI hown hk))
/-- append of one row, in a region that draws. -/
theorem step_app_row {w : World} {ops : Array Oper} {o : Oper} {a : Act} {K : Act → World → Prop} {Q : Exit → Act → World → Prop} {E : Prop} (hgd : o.guard = none) (s x : Operand)
    (ho : o.op = .call { callee := .builtin .append, args := #[s, x], argTypes := #[62, 62] })
    (base n : Nat) (v : Value) (rows : Nat → List Int) (hs : a.eval s = v) (hown : GrowR base w v n rows)
    (B : Nat) (a1 : Option Addr) (m c1 : Nat) (hm : (rows n).length = m) (hx : a.eval x = .slice (some ⟨B, 0, none⟩) 1 1) (hc : w.cell? ⟨B, 0, none⟩ = some (.slice a1 m c1)) (hr : RowAt base w a1 (rows n) v.ownBlock ∧ (rows n).length ≤ c1) (hn : n ≤ 1000000) (hbase : base ≤ w.heap.size)
    (h : ∀ g c' w', GrowR base w' (.slice (some ⟨g, 0, none⟩) (n + 1) c') (n + 1) rows → Below base w w' → K (a.put o.dst (.slice (some ⟨g, 0, none⟩) (n + 1) c')) w') :
    if Region.wanted o (yielded ops a.tmps) = true then Oper.wp Try.prog o a w K Q else E := by
  subst hm
  obtain ⟨i0, hi, hz0, hz1, hz2⟩ := info_parts infoRow
  obtain ⟨ad, cp, hown, hrows⟩ := hown
  refine step_append_lies w hgd s x 62 ho base 26 i0 _ 1 24 undRows hi hz0 hz1 hz2 rfl (by decide) v n _ hs hown ⟨B, 0, none⟩ 1 1 [.slice a1 (rows n).length c1] hx rfl ?_ ?_ (by decide) (by unfold maxLen; omega) (by omega) hbase _ rfl ?_
  · intro j u hj
    match j, hj with
    | 0, hj => simp at hj; subst hj; exact hc
  · intro u hu; simp at hu; subst hu; rfl
  · intro g c' w' h1 h2 h3 h4
    exact h g c' w' (GrowR.app hrows hr h1 h2 h3) ((Below.refl base w).grown h2 hbase (fun k hk => owns_blockI hown hk))
/-- Each list of nights with one night more. -/
def furL (C : List (List Int)) (N : Nat) : List (List Int) := C.map (· ++ [(N : Int)])
theorem gr_furL (C : List (List Int)) (N : Nat) {i : Nat} (hi : i < C.length) : gr (furL C N) i = gr C i ++ [(N : Int)] := by
  unfold gr furL; simp [hi]
theorem gi_app (l : List Int) (x : Int) (j : Nat) : gi (l ++ [x]) j = if j < l.length then gi l j else if j = l.length then x else 0 := by
  unfold gi
  rw [List.getD_eq_getElem?_getD, List.getD_eq_getElem?_getD, List.getElem?_append]
  by_cases h : j < l.length
  · rw [if_pos h, if_pos h]
  · rw [if_neg h, if_neg h]
    by_cases e : j = l.length
    · subst e; simp
    · rw [if_neg e]; simp [show ¬ j - l.length = 0 by omega]
set_option maxRecDepth 100000 in
set_option maxHeartbeats 8000000 in
theorem further_r (C : List (List Int)) (P : List Int) (ac ap : Option Addr) (cc cp L N : Nat) (p : Int) (w : World) (h : OfS w C P ac ap L N) (hN : N < 1000) (hp : I64 p) :
    Calls Try.prog 44 #[.agg #[.slice ac L cc, .slice ap N cp], .int .i64 p] w fun e w' => OfE w (furL C N) (P ++ [p]) L (N + 1) e w' := by
  obtain ⟨wB, hwB⟩ : ∃ wB, (w.alloc (.cells #[.slice ac L cc, .slice ap N cp] 64)).alloc (.cells #[.slice none 0 0, .slice none 0 0] 64) = wB := ⟨_, rfl⟩
  have hbB : Below w.heap.size w wB := by rw [← hwB]; exact ((Below.refl _ _).alloc (Nat.le_refl _) _).alloc (by simp) _
  have p0 : wB.cell? ⟨w.heap.size, 0, none⟩ = some (.slice ac L cc) := by rw [← hwB]; simp [go_sem]
  have p1 : wB.cell? ⟨w.heap.size, 1, none⟩ = some (.slice ap N cp) := by rw [← hwB]; simp [go_sem]
  have r0 : wB.cell? ⟨w.heap.size + 1, 0, none⟩ = some (.slice none 0 0) := by rw [← hwB]; simp [go_sem]
  have r1 : wB.cell? ⟨w.heap.size + 1, 1, none⟩ = some (.slice none 0 0) := by rw [← hwB]; simp [go_sem]
  have s0 : wB.frozen? ⟨w.heap.size + 1, 0, none⟩ = false := by rw [← hwB]; simp [go_sem]
  have s1 : wB.frozen? ⟨w.heap.size + 1, 1, none⟩ = false := by rw [← hwB]; simp [go_sem]
  have hzB : Hid (w.heap.size + 1 < wB.heap.size) := Lib.hid (block_lt r0)
  have hsm := h.small
  have hPi := h.ints
  have hpn := h.pn
  have hPc : IntsC wB ap P := by
    obtain ⟨q0, q1, q2⟩ := hPi.below hbB
    exact ⟨q0, q2⟩
  have HC1 := Lib.hid (clone_i ap P cp wB hPc (by omega))
  rw [hpn] at HC1
  have HO := Lib.hid h
  have h64P : Hid (∀ j, j < N + 1 → I64 (gi (P ++ [p]) j)) := Lib.hid fun j hj => by
    rw [gi_app]
    split
    · exact hPi.2.1 j (by omega)
    · split
      · exact hp
      · exact ⟨by omega, by omega⟩
  have hPL : Hid ((P ++ [p]).length = N + 1) := Lib.hid (by simp [hpn])
  have hCLI : Hid (clI (P ++ [p]) = clI P ++ [.int .i64 p]) := Lib.hid (clI_app P p)
  clear h hPi hPc hp hpn
  go_enter Try.func44, Try.ntmps44
  go_wp2_with fail
  refine HC1.out.mono ?_
  rintro e w1 ⟨b1, c1, rfl, hown1, -, hb1⟩
  have p0 := cell_below p0 hb1
  have p1 := cell_below p1 hb1
  have r0 := cell_below r0 hb1
  have r1 := cell_below r1 hb1
  have s0 := (hb1.frozen (p := ⟨w.heap.size + 1, 0, none⟩) hzB.out).trans s0
  have s1 := (hb1.frozen (p := ⟨w.heap.size + 1, 1, none⟩) hzB.out).trans s1
  have hbw1 := below_onN hbB hb1 hbB.size
  have hown := Lib.hid (hown1.alloc (.cells #[.int .i64 p] 3))
  have c9 : (w1.alloc (.cells #[.int .i64 p] 3)).cell? ⟨w1.heap.size, 0, none⟩ = some (.int .i64 p) := by simp [go_sem]
  have hs1 := hb1.size
  have hzB1 := hzB.out
  clear hown1 HC1
  go_wp2_with (first | (at_builtin; go_loud (refine app_int rfl _ _ rfl wB.heap.size N c1 b1 _ rfl hown.out w1.heap.size (.int .i64 p) rfl c9 (by rfl) (by omega) ?d2 ?_)))
  case d2 => simp; omega
  intro g2 c2 wo hown2 hb2
  have hbE : Below wB.heap.size w1 wo := ((Below.refl wB.heap.size w1).alloc hs1 _).trans hb2
  have p0 := (hbE.cell (p := ⟨w.heap.size, 0, none⟩) (by simp; omega)).trans p0
  have p1 := (hbE.cell (p := ⟨w.heap.size, 1, none⟩) (by simp; omega)).trans p1
  have r0 := (hbE.cell (p := ⟨w.heap.size + 1, 0, none⟩) (by simp; omega)).trans r0
  have r1 := (hbE.cell (p := ⟨w.heap.size + 1, 1, none⟩) (by simp; omega)).trans r1
  have s0 := (hbE.frozen (p := ⟨w.heap.size + 1, 0, none⟩) (by simp; omega)).trans s0
  have s1 := (hbE.frozen (p := ⟨w.heap.size + 1, 1, none⟩) (by simp; omega)).trans s1
  have hbo := Lib.hid (hbw1.trans (hbE.mono (by omega)))
  have hownP : Hid (wo.ownsRow wB.heap.size 3 1 (.slice (some ⟨g2, 0, none⟩) (N + 1) c2) (N + 1) (clI (P ++ [p]))) := Lib.hid (by rw [hCLI.out]; exact hown2)
  have hzo : wB.heap.size ≤ wo.heap.size := by have := hbE.size; omega
  clear hown2 hown hb2 hbE c9 hbw1 hb1 hCLI
  have hOo := Lib.hid (HO.out.below hbo.out)
  obtain ⟨hR0, rb, ro, ad, cpr, radr, hrc⟩ := hOo.out.rows
  have hcl := hOo.out.cl
  have HA : Hid (0 < L → ac = some ⟨rb, ro, none⟩) := Lib.hid fun h => radr (by rintro rfl; simp at hcl; omega)
  have HRc : Hid (∀ i, i < L → wo.cell? ⟨rb, ro + i, none⟩ = some (.slice (ad i) (gr C i).length (cpr i)) ∧ IntsC wo (ad i) (gr C i)) := Lib.hid fun i hi => by
    obtain ⟨x1, ⟨y1, y2, y3⟩, x3⟩ := hrc i (by omega)
    exact ⟨x1, y1, y3⟩
  have hWid := Lib.hid hOo.out.wid
  have hEnt := Lib.hid hOo.out.ent
  clear hrc radr hR0 HO hOo
  obtain ⟨wC, hwC⟩ : ∃ wC, ((wo.alloc (.cells #[.slice none 0 0, .slice (some ⟨g2, 0, none⟩) (N + 1) c2] 64))) = wC := ⟨_, rfl⟩
  have hbC : Below wo.heap.size wo wC := by rw [← hwC]; exact (Below.refl _ _).alloc (Nat.le_refl _) _
  have q0 : wC.cell? ⟨wo.heap.size, 0, none⟩ = some (.slice none 0 0) := by rw [← hwC]; simp [go_sem]
  have q1 : wC.cell? ⟨wo.heap.size, 1, none⟩ = some (.slice (some ⟨g2, 0, none⟩) (N + 1) c2) := by rw [← hwC]; simp [go_sem]
  have fz : wC.frozen? ⟨wo.heap.size, 0, none⟩ = false := by rw [← hwC]; simp [go_sem]
  have p0C := cell_below p0 hbC
  have p1C := cell_below p1 hbC
  have HROW : Hid (∀ i, i < L → (fun i => gr C i ++ [(N : Int)]) i = gr C i ++ [(N : Int)]) := Lib.hid fun i _ => rfl
  have HFL : Hid (∀ i, i < L → gr (furL C N) i = (fun i => gr C i ++ [(N : Int)]) i) := Lib.hid fun i hi => gr_furL C N (by omega)
  generalize hrows : (fun i => gr C i ++ [(N : Int)]) = rows at *
  have hrows := Lib.hid hrows
  go_wp2_with fail
  go_loopw [18] (fun i wr => ∃ (k : Nat) (av : Option Addr) (cv : Nat), k ≤ L ∧ i = .int .i64 k ∧ wr.cell? ⟨wo.heap.size, 0, none⟩ = some (.slice av k cv) ∧ wr.cell? ⟨wo.heap.size, 1, none⟩ = some (.slice (some ⟨g2, 0, none⟩) (N + 1) c2) ∧ wr.frozen? ⟨wo.heap.size, 0, none⟩ = false ∧ Hid (GrowR (wo.heap.size + 1) wr (.slice av k cv) k rows) ∧ Hid (Below wo.heap.size wo wr)) (fun i _ => L - (intOf i).toNat)
  case atStart => exact ⟨0, none, 0, Nat.zero_le _, rfl, q0, q1, fz, Lib.hid (GrowR.nil _ _ _), Lib.hid hbC⟩
  case round =>
    obtain ⟨k, av, cv, hk, rfl, q0, q1, fz, HG, hbr⟩ := hrel
    clear hwC hbC p0C p1C
    by_cases hlt : k < L
    · obtain rfl := HA.out (by omega)
      obtain ⟨cR, hIR⟩ := HRc.out k hlt
      have cR := cell_below cR hbr.out
      have hIr := hIR.below hbr.out
      have hXm : (gr C k).length ≤ 100000 := by have := hWid.out k hlt; omega
      have HCl := Lib.hid (fun W (hW : Below wr.heap.size wr W) => clone_i (ad k) (gr C k) (cpr k) W (hIr.below hW) (by omega))
      have hRk := Lib.hid (HROW.out k hlt)
      have HRA : Hid (∀ (W : World) (g c : Nat), W.ownsRow wr.heap.size 3 1 (.slice (some ⟨g, 0, none⟩) ((gr C k).length + 1) c) ((gr C k).length + 1) (clI (gr C k) ++ [.int .i64 N]) → RowAt (wo.heap.size + 1) W (some ⟨g, 0, none⟩) (rows k) (Value.slice av k cv).ownBlock ∧ (rows k).length ≤ c) := Lib.hid fun W g c h => by
        have e : clI (rows k) = clI (gr C k) ++ [.int .i64 N] := by rw [hRk.out, clI_app]
        have el : (rows k).length = (gr C k).length + 1 := by rw [hRk.out]; simp
        have h2 := rowAt_own (zs := rows k) (base := wr.heap.size) (av := (Value.slice av k cv).ownBlock) (w := W) (a := some ⟨g, 0, none⟩) (c := c) (by rw [e, el]; exact h) (fun z hz => HG.out.owned z hz)
        exact ⟨h2.1.lower (block_lt q0), h2.2⟩
      have hRl : Hid ((rows k).length = (gr C k).length + 1) := Lib.hid (by rw [hRk.out]; simp)
      have HGR := Lib.hid (fun W (hW : Below wr.heap.size wr W) => HG.out.below hW)
      have p0 := cell_below p0 hbr.out
      have p1 := cell_below p1 hbr.out
      have hzw : w.heap.size < wr.heap.size := block_lt p0
      have hzo2 : wo.heap.size < wr.heap.size := block_lt q0
      clear hIR hIr hRk HG HRc HA hWid hEnt HROW HFL hrows
      generalize gr C k = X at *
      obtain ⟨m, hm⟩ : ∃ m, X.length = m := ⟨_, rfl⟩
      rw [hm] at HCl HRA hRl hXm cR
      clear hm
      generalize ad k = adk at *
      generalize cpr k = cpk at *
      have hN1 : (N : Int) ≤ 1000 := by omega
      have q0W := Lib.hid q0
      have hq9 : Hid (∀ (W : World), Below wr.heap.size wr W → ∀ c t, (W.alloc (.cells c t)).cell? ⟨wo.heap.size, 0, none⟩ = some (.slice av k cv)) := Lib.hid fun W hW c t => ((hW.alloc hW.size (.cells c t)).cell (p := ⟨wo.heap.size, 0, none⟩) hzo2).trans q0
      have hqr := hq9.out wr.drew (Below.refl _ _).drew
      go_wp2_with fail
      go_region_law (first
        | (go_simp; go_at_call 65
           first
           | (refine (HCl.out _ (Below.refl _ _).drew).mono ?_
              rintro e w9 ⟨b9, c9, rfl, hown9, -, hb9⟩
              have hown9 := owns_baseI hown9 (Nat.le_refl wr.heap.size)
              have hB9 : Below wr.heap.size wr w9 := (Below.refl wr.heap.size wr).drew.trans hb9
              have p1 := (hB9.cell (p := ⟨w.heap.size, 1, none⟩) hzw).trans p1
              have q0 := (hB9.cell (p := ⟨wo.heap.size, 0, none⟩) hzo2).trans q0W.out
              have hqr := hq9.out w9 hB9)
           | (refine (HCl.out _ ((Below.refl _ _).drew.alloc (Nat.le_refl _) _)).mono ?_
              rintro e w9 ⟨b9, c9, rfl, hown9, -, hb9⟩
              have hown9 := owns_baseI hown9 (show wr.heap.size ≤ (wr.drew.alloc (.cells #[.int .i64 N] 3)).heap.size by simp)
              have hB9 : Below wr.heap.size wr w9 := ((Below.refl wr.heap.size wr).drew.alloc (Nat.le_refl _) (.cells #[.int .i64 N] 3)).trans (hb9.mono (by simp))
              have c29 : w9.cell? ⟨wr.heap.size, 0, none⟩ = some (.int .i64 N) := (hb9.cell (p := ⟨wr.heap.size, 0, none⟩) (by simp)).trans (by simp [go_sem])
              have p1 := (hB9.cell (p := ⟨w.heap.size, 1, none⟩) hzw).trans p1
              have q0 := (hB9.cell (p := ⟨wo.heap.size, 0, none⟩) hzo2).trans q0W.out
              have hqr := hq9.out w9 hB9))
        | (first
           | (refine step_app_int rfl _ _ rfl wr.heap.size m c9 b9 _ rfl (hown9.alloc _) w9.heap.size (.int .i64 N) rfl (by simp [go_sem]) (by rfl) (by omega) (by have := hB9.size; simp; omega) ?_
              intro g6 c6 w6 hown6 hb6
              have hB6 : Below wr.heap.size wr w6 := (hB9.alloc hB9.size (.cells #[.int .i64 N] 3)).trans hb6
              have q0 := (hB6.cell (p := ⟨wo.heap.size, 0, none⟩) hzo2).trans q0W.out
              have hqr := hq9.out w6 hB6)
           | (refine step_app_int rfl _ _ rfl wr.heap.size m c9 b9 _ rfl hown9 wr.heap.size (.int .i64 N) rfl c29 (by rfl) (by omega) (by exact hB9.size) ?_
              intro g6 c6 w6 hown6 hb6
              have hB6 : Below wr.heap.size wr w6 := hB9.trans hb6
              have q0 := (hB6.cell (p := ⟨wo.heap.size, 0, none⟩) hzo2).trans q0W.out
              have hqr := hq9.out w6 hB6))
        | (refine step_app_row rfl _ _ rfl (wo.heap.size + 1) k (.slice av k cv) rows rfl (HGR.out _ (hB6.alloc hB6.size _)) w6.heap.size (some ⟨g6, 0, none⟩) (m + 1) c6 hRl.out rfl (by simp [go_sem]) (HRA.out _ _ _ (hown6.alloc _)) (by omega) (by have := hB6.size; simp; omega) ?_
           intro g7 c7 w7 HG7 hb7
           have hB7 : Below (wo.heap.size + 1) wr w7 := ((hB6.alloc hB6.size (.cells #[.slice (some ⟨g6, 0, none⟩) (m + 1) c6] 26)).mono hzo2).trans hb7
           have q0 := (hB7.cell (p := ⟨wo.heap.size, 0, none⟩) (by simp)).trans q0W.out
           have q1 := (hB7.cell (p := ⟨wo.heap.size, 1, none⟩) (by simp)).trans q1
           have fz := (hB7.frozen (p := ⟨wo.heap.size, 0, none⟩) (by simp)).trans fz))
      all_goals
        have hbr7 := Lib.hid (hbr.out.trans (hB7.mono (Nat.le_succ _)))
        have HG8 := Lib.hid (HG7.set (a := ⟨wo.heap.size, 0, none⟩) (by simp) (.slice (some ⟨g7, 0, none⟩) (k + 1) c7))
        have hb8 := Lib.hid (hbr7.out.setCell (p := ⟨wo.heap.size, 0, none⟩) (Nat.le_refl _) (.slice (some ⟨g7, 0, none⟩) (k + 1) c7))
        have q08 : (w7.setCell ⟨wo.heap.size, 0, none⟩ (.slice (some ⟨g7, 0, none⟩) (k + 1) c7)).cell? ⟨wo.heap.size, 0, none⟩ = some (.slice (some ⟨g7, 0, none⟩) (k + 1) c7) := World.cell?_setCell_same _ _ _ q0
        have q18 : (w7.setCell ⟨wo.heap.size, 0, none⟩ (.slice (some ⟨g7, 0, none⟩) (k + 1) c7)).cell? ⟨wo.heap.size, 1, none⟩ = some (.slice (some ⟨g2, 0, none⟩) (N + 1) c2) := by rw [World.cell?_setCell_other _ _ _ _ (by simp)]; exact q1
        have f08 : (w7.setCell ⟨wo.heap.size, 0, none⟩ (.slice (some ⟨g7, 0, none⟩) (k + 1) c7)).frozen? ⟨wo.heap.size, 0, none⟩ = false := by rw [World.frozen?_setCell]; exact fz
        go_wp2_with fail
        go_roundw
        case rel => exact ⟨k + 1, some ⟨g7, 0, none⟩, c7, by omega, by go_num, q08, q18, f08, HG8, hb8⟩
        case measure => simp [intOf]; omega
    · obtain rfl : k = L := by omega
      have r0 := cell_below r0 hbr.out
      have r1 := cell_below r1 hbr.out
      have hzr : w.heap.size + 1 < wo.heap.size := by omega
      have s0 := (hbr.out.frozen (p := ⟨w.heap.size + 1, 0, none⟩) hzr).trans s0
      have s1 := (hbr.out.frozen (p := ⟨w.heap.size + 1, 1, none⟩) hzr).trans s1
      have hbW := Lib.hid (below_onN hbo.out hbr.out hbo.out.size)
      have hRS : Hid (∀ w2, (∀ k, wo.heap.size + 1 ≤ k → k < wr.heap.size → w2.heap[k]? = wr.heap[k]?) → RowsS w2 av (furL C N)) := Lib.hid fun w2 hs => HG.out.rows (furL C N) (by simp [furL]; exact hcl) HFL.out (by omega) (fun i hi => by
        have e : rows i = gr C i ++ [(N : Int)] := HROW.out i hi
        rw [e]
        refine ⟨by have := hWid.out i hi; simp; omega, fun j hj => ?_⟩
        rw [gi_app]
        split
        · next hjl => obtain ⟨q, e2, hq⟩ := hEnt.out i hi j hjl; rw [e2]; exact ⟨by omega, by omega⟩
        · split
          · exact ⟨by omega, by omega⟩
          · exact ⟨by omega, by omega⟩) hs
      have hPS : Hid (∀ w2, (∀ k, wB.heap.size ≤ k → k < wo.heap.size → w2.heap[k]? = wr.heap[k]?) → IntsS w2 (some ⟨g2, 0, none⟩) (P ++ [p])) := Lib.hid fun w2 hs => ints_own2 (w := wo) (by rw [hPL.out]; exact hownP.out) (by rw [hPL.out]; omega) (fun j hj => h64P.out j (by rw [hPL.out] at hj; exact hj)) (fun k h1 h2 => (hs k h1 h2).trans (hbr.out.block k h2))
      have hEn2 : Hid (∀ i, i < k → ∀ j, j < (gr (furL C N) i).length → ∃ m : Nat, gi (gr (furL C N) i) j = m ∧ m < N + 1) := Lib.hid fun i hi j hj => by
        rw [HFL.out i hi, HROW.out i hi] at hj ⊢
        rw [gi_app]
        split
        · next hjl => obtain ⟨q, e2, hq⟩ := hEnt.out i hi j hjl; exact ⟨q, e2, by omega⟩
        · split
          · exact ⟨N, rfl, by omega⟩
          · next h1 h2 => simp at hj; omega
      have hWd2 : Hid (∀ i, i < k → (gr (furL C N) i).length ≤ N + 1) := Lib.hid fun i hi => by
        rw [HFL.out i hi, HROW.out i hi]
        have := hWid.out i hi
        simp; omega
      have hFC : Hid ((furL C N).length = k) := Lib.hid (by simp [furL]; exact hcl)
      have hzB2 := hzB.out
      clear HG hbr hbo hownP hWid hEnt HROW HFL HRc HA
      go_wp2_with fail
      refine bodyPost_ret (v := .agg #[.slice av k cv, .slice (some ⟨g2, 0, none⟩) (N + 1) c2]) (by simp [results, Try.results44, go_sem, r0, r1, s0, s1]) rfl ?_
      have hk9 : ∀ z, z ≠ w.heap.size + 1 → ((wr.setCell ⟨w.heap.size + 1, 0, none⟩ (.slice av k cv)).setCell ⟨w.heap.size + 1, 1, none⟩ (.slice (some ⟨g2, 0, none⟩) (N + 1) c2)).heap[z]? = wr.heap[z]? := fun z hz => (Below.heap_setCell _ _ _ _ hz).trans (Below.heap_setCell _ _ _ _ hz)
      exact ⟨av, cv, _, c2, rfl, ⟨hRS.out _ (fun z h1 h2 => hk9 z (by omega)), hPS.out _ (fun z h1 h2 => hk9 z (by omega)), hFC.out, hPL.out, by omega, by omega, hEn2.out, hWd2.out⟩, (hbW.out.setCell (p := ⟨w.heap.size + 1, 0, none⟩) (Nat.le_succ _) _).setCell (p := ⟨w.heap.size + 1, 1, none⟩) (Nat.le_succ _) _⟩
end Go.Proofs.Ytghlhjiomebmhaa
