/-
  The walk of the reference's packs: a backtracking search over begun rolls. By an AI agent.
-/
import Derived.Test.YtmeoekcajmgiaaaCutYc
import Derived.Test.YtmeoekcajmgiaaaStepU
import Derived.Deep.RegionHeld3
import Derived.BigQuiet
import Derived.StillTailTactics
import Derived.Deep.DeepCutAuto
namespace Go.Proofs.Ytmeoekcajmgiaaa
set_option linter.unusedVariables false
set_option linter.unusedSimpArgs false
open Go.RowKit

def PackC (L K : Int) (l : List (Int × Int)) (n m : Nat) : Prop := ∀ (aa : Option Addr) (ca : Nat) (al : Option Addr) (P : List Int) (cl i : Nat) (ab : Option Addr) (C : List (List Int)) (cb : Nat) (w : World), PairsS w aa l → IntsS w al P → (∀ j, j < P.length → 0 ≤ gi P j ∧ gi P j < l.length) → i + m = P.length → P.length ≤ 10 → RowsS w ab C → C.length ≤ i → RwOk l.length C i →
    Calls Try.prog 21 #[.agg #[.int .i64 L, .int .i64 K, .slice aa l.length ca], .slice al P.length cl, .int .i64 i, .slice ab C.length cb, .int .i64 n] w fun e w' => e = .returned (.bool (pkF n (L + K) (szP K l (P.drop i)) C.length (ldL K l C))) ∧ Below w.heap.size w w'
theorem drop_gi (P : List Int) {i : Nat} (h : i < P.length) : P.drop i = gi P i :: P.drop (i + 1) := by
  rw [List.drop_eq_getElem_cons h]
  unfold gi
  rw [List.getD_eq_getElem?_getD, List.getElem?_eq_getElem h]; rfl
theorem owns_baseY {w : World} {base base' : Nat} {e : TypeId} {size : Nat} {v : Value} {n : Nat} {xs : List Value} (h : w.ownsRow base e size v n xs) (hb : base' ≤ base) : w.ownsRow base' e size v n xs := by
  refine ⟨h.1, ?_⟩
  rcases h.2 with h2 | ⟨g, cap, cur, h1, h2, h3, h4⟩
  · exact .inl h2
  · exact .inr ⟨g, cap, cur, h1, Nat.le_trans hb h2, h3, h4⟩
theorem owns_someY {w : World} {base : Nat} {e : TypeId} {a : Option Addr} {n c : Nat} {xs : List Value} (h : w.ownsRow base e 1 (.slice a n c) n xs) (hn : 0 < n) : ∃ b, a = some ⟨b, 0, none⟩ ∧ base ≤ b := by
  rcases h.2 with ⟨h2, h3⟩ | ⟨g, cap, cur, h1, h2, _⟩
  · omega
  · obtain ⟨rfl, rfl⟩ : a = some ⟨g, 0, none⟩ ∧ c = cap := by simpa using h1
    exact ⟨g, rfl, h2⟩
set_option maxRecDepth 100000 in
set_option maxHeartbeats 2000000 in
theorem pack_0 (L K : Int) (l : List (Int × Int)) (n : Nat) : PackC L K l n 0 := by
  intro aa ca al P cl i ab C cb w hA hP hPx hi hP10 hC hCi hR
  obtain rfl : i = P.length := by omega
  have hv : pkF n (L + K) (szP K l (P.drop P.length)) C.length (ldL K l C) = true := by rw [List.drop_length]; rfl
  rw [hv]
  have d0 : ((P.length : Int) == (P.length : Int)) = true := by simp
  have hb := (InBox.start w L K (.slice aa l.length ca) 24).1
  clear hA hP hPx hC hR hv hCi
  go_enter Try.func21, Try.ntmps21
  go_wp2_with fail
  go_ret
  exact ⟨rfl, hb⟩
set_option maxRecDepth 100000 in
set_option maxHeartbeats 2000000 in
theorem pack_s (L K : Int) (l : List (Int × Int)) (hV : CutOk L K l) (n : Nat) (hn : n ≤ 100) (m : Nat) (IH : PackC L K l n m) : PackC L K l n (m + 1) := by
  intro aa ca al P cl i ab C cb w hA hP hPx hi hP10 hC hCi hR
  have d0 : ((i : Int) == (P.length : Int)) = false := beq_false_of_ne (by omega)
  obtain ⟨x0, x1⟩ := hPx i (by omega)
  obtain ⟨x, hx⟩ : ∃ x : Nat, gi P i = (x : Int) := ⟨(gi P i).toNat, by omega⟩
  have hxl : x < l.length := by omega
  have hl8 : l.length ≤ 8 := hV.2.2.1
  have hval : szP K l (P.drop i) = ((gp l x).1 + K) :: szP K l (P.drop (i + 1)) := by
    rw [drop_gi P (by omega)]; unfold szP; rw [List.map_cons, hx]; simp
  rw [hval]
  have HT := Lib.hid (fun (k : Nat) (hk : k ≤ C.length) (hkn : k < n) h => pk_true (L := L) (K := K) (T := szP K l (P.drop (i + 1))) hR (by omega) hk hkn hxl h)
  have HF := Lib.hid (pk_false (L := L) (K := K) (n := n) (T := szP K l (P.drop (i + 1))) hR (by omega) hxl)
  have HFit := Lib.hid (fun (W : World) (hW : Below w.heap.size w W) (b : Option Addr) (q : List Int) (cq : Nat) (hQ : IntsS W b q) (hq : q.length = l.length) => refFits0_any L K aa l ca b q cq W (hA.below hW) hQ hV hq)
  have HRec := Lib.hid (fun (W : World) (hW : Below w.heap.size w W) (b : Option Addr) (C2 : List (List Int)) (c2 : Nat) (h : RowsS W b C2) (h2 : C2.length ≤ i + 1) (h3 : RwOk l.length C2 (i + 1)) => IH aa ca al P cl (i + 1) b C2 c2 W (hA.below hW) (hP.below hW) hPx (by omega) hP10 h h2 h3)
  have hRk := Lib.hid hR
  have HCl : Hid (∀ j, j < C.length → (gr C j).length = l.length) := Lib.hid fun j hj => (hR j hj).1
  have hil : i < P.length := by omega
  obtain ⟨-, -, pb, po, hadP, hcP⟩ := hP
  obtain rfl := hadP (pos_ne (n := 0) (by omega))
  have cx := hcP i hil
  rw [hx] at cx
  have hz := block_lt cx
  obtain ⟨-, qb, qo, ad, cp, hadC, hcC⟩ := hC
  have HC := Lib.hid hcC
  have HLC : Hid (0 < C.length → ab = some ⟨qb, qo, none⟩) := Lib.hid fun h => hadC (pos_ne (n := 0) h)
  have hla := hA.1
  have hS := InBox.start w L K (.slice aa l.length ca) 24
  generalize pkF n (L + K) (((gp l x).1 + K) :: szP K l (P.drop (i + 1))) C.length (ldL K l C) = RES at *
  have hcl : C.length ≤ 10 := by omega
  clear hcP hadP hcC hadC hA hPx IH hval hR hx x0 x1 hi
  go_enter Try.func21, Try.ntmps21
  go_wp2_with fail
  obtain ⟨wB, hwB⟩ : ∃ wB, w.alloc (.cells #[.int .i64 L, .int .i64 K, .slice aa l.length ca] 24) = wB := ⟨_, rfl⟩
  rw [hwB] at hS ⊢
  clear hwB
  have hSb := hS.1
  have HS := Lib.hid hS
  clear hS
  go_loopw [11] (fun i9 wr => ∃ k : Nat, k ≤ C.length + 1 ∧ k ≤ n ∧ i9 = .int .i64 k ∧ Below wB.heap.size wB wr ∧ Hid (∀ j, j < k → pkT L K l n (szP K l (P.drop (i + 1))) C j x = false)) (fun i9 _ => C.length + 1 - (intOf i9).toNat)
  case atStart => exact ⟨0, Nat.zero_le _, Nat.zero_le _, rfl, Below.refl _ _, Lib.hid fun j hj => absurd hj (Nat.not_lt_zero _)⟩
  case round =>
    obtain ⟨k, hk, hkn, rfl, hb, HFk⟩ := hrel
    by_cases h1 : k ≤ C.length
    rotate_left
    · have hr : RES = false := HF.out fun j hj _ => HFk.out j (by omega)
      have hrr := Lib.hid hr
      have HS2 := Lib.hid (hSb.trans (hb.mono hSb.size))
      clear hr HF HT HFk
      go_wp2_with fail
      go_ret
      exact ⟨by rw [hrr.out]; rfl, HS2.out⟩
    by_cases h2 : k < n
    rotate_left
    · have hr : RES = false := HF.out fun j hj hj2 => HFk.out j (by omega)
      have hrr := Lib.hid hr
      have HS2 := Lib.hid (hSb.trans (hb.mono hSb.size))
      clear hr HF HT HFk
      go_wp2_with fail
      go_ret
      exact ⟨by rw [hrr.out]; rfl, HS2.out⟩
    go_wp2_with fail
    obtain ⟨wo, rfl⟩ : ∃ wo : World, wo = wr := ⟨_, rfl⟩
    go_loopw [12, 13] (fun v i9 wq => ∃ t : Nat, t ≤ C.length ∧ i9 = .int .i64 t ∧ Hid (NxR wB.heap.size wq v t l.length (gr C)) ∧ Below wB.heap.size wB wq) (fun _ i9 _ => C.length - (intOf i9).toNat)
    case atStart => exact ⟨0, Nat.zero_le _, rfl, Lib.hid (NxR.nil _ _ _ _), hb⟩
    case round =>
      obtain ⟨t, ht, rfl, hN, hbq⟩ := hrel
      by_cases hlt : t < C.length
      · obtain rfl := HLC.out (by omega)
        obtain ⟨c1, c2, c3⟩ := HC.out t hlt
        have hbw := hSb.trans (hbq.mono hSb.size)
        have c1 := cell_below c1 hbw
        have c2 := Lib.hid (c2.below hbw)
        have hgl := HCl.out t hlt
        have HGL := Lib.hid hgl
        rw [hgl] at c1
        generalize ad t = ax at *
        generalize cp t = cx9 at *
        clear HT HF HFit HRec hRk HC HLC HFk c3
        have HE := Lib.hid (World.ownsRow_made (base := wr.heap.size) (e := 3) (size := 1) wr #[] 0 (Nat.le_refl _) (Nat.zero_le _) (by simp))
        have HB6 := Lib.hid ((Below.refl wr.heap.size wr).alloc (Nat.le_refl _) (.cells #[] 3))
        have HPI := Lib.hid (c2.out.below HB6.out)
        have c1 := cell_below c1 HB6.out
        have hq9 := hbq.size
        have hzl : 0 + l.length = l.length := by omega
        have hl0 : 0 < l.length := by omega
        have HLL : Hid ((gr C t).length = l.length) := HGL
        clear hgl c2
        go_upto_region 9 with (first
          | (at_builtin; (refine app_intsY _ (by rfl) _ _ (by rfl) wr.heap.size (some ⟨wr.heap.size, 0, none⟩) 0 0 [] (by rfl) HE.out ax (gr C t) cx9 (by simp [go_sem, HLL.out]) HPI.out (by rw [HLL.out]; omega) (by simp) ?_); intro b9 c9 wg hown9 hb9
             rw [HLL.out, hzl] at hown9 ⊢
             obtain ⟨b9, rfl, hb99⟩ := owns_someY hown9 hl0
             have hbg : Below wr.heap.size wr wg := HB6.out.trans hb9
             have hown9 : Hid (wg.ownsRow wr.heap.size 3 1 (.slice (some ⟨b9, 0, none⟩) l.length c9) l.length (isL (gr C t))) := Lib.hid (by simpa using hown9)
             clear hb9)
          | (at_builtin; (refine app_rowY (by rfl) _ _ (by rfl) wB.heap.size t l.length _ (gr C) wr (by rfl) hN.out (hbg.alloc hbg.size _) b9 c9 hb99 (owns_baseY (hown9.out.alloc _) hq9) HLL.out (by omega) (by have := hbg.size; simp; omega) wg.heap.size (by rfl) (by simp [go_sem]) ?_); intro g6 c6 w6 hN6 hb6))
        go_wp2_with fail
        go_roundw
        case rel => exact ⟨t + 1, by omega, by go_num, Lib.hid hN6, hbq.trans (((hbg.alloc hbg.size _).mono hq9).trans hb6)⟩
        case measure => simp [intOf]; omega
      · obtain rfl : t = C.length := by omega
        clear HC HLC
        by_cases hkc : k = C.length
        · have hkd : ((k : Int) == (C.length : Int)) = true := by simp; omega
          obtain ⟨-, p0, p1, p2⟩ := HS.out.on hbq
          obtain ⟨i0, hi0, hz0, hz1, hz2⟩ := info_partsY infoIntY
          obtain ⟨Cm, hCm⟩ : ∃ Cm, Cm = moreR l.length C k := ⟨_, rfl⟩
          have HNL : Hid (Cm.length = C.length + 1) := Lib.hid (by rw [hCm, moreR_len, if_pos hkc])
          have HGm : Hid (∀ j, gr Cm j = if j = C.length then List.replicate l.length 0 else gr C j) := Lib.hid fun j => by
            rw [hCm, gr_moreR]
            by_cases e : j = C.length
            · rw [if_pos ⟨hkc, e⟩, if_pos e]
            · rw [if_neg (fun h => e h.2), if_neg e]
          have HN2 : Hid (NxR wB.heap.size wr _ C.length l.length (gr Cm)) := Lib.hid (hN.out.congr fun j hj => by rw [HGm.out j, if_neg (by omega)])
          have HRl : Hid ((gr Cm C.length).length = l.length ∧ isL (gr Cm C.length) = (madeCells #[Value.int .i64 0] (l.length * 1)).toList) := Lib.hid (by
            rw [HGm.out, if_pos rfl, Nat.mul_one, toList_madeCells_one]
            exact ⟨by simp, by simp [isL]⟩)
          have hkm : k < C.length + 1 := by omega
          have HCM := Lib.hid hCm
          have HBQ := Lib.hid hbq
          have hq9 := hbq.size
          clear hN hCm hbq hkc
          go_wp2_with (first
            | (refine wpList_make_full _ rfl _ _ 33 rfl wr.heap.size 3 i0 (.int .i64 0) 1 undRowY hi0 hz0 hz1 _ _ (l.length : Int) (l.length : Int) l.length rfl rfl (by omega) (by omega) (by rw [hz2]; omega) (by unfold maxLen; omega) (Nat.le_refl _) ?_
               intro wg hown9 hg9
               have hbg : Below wr.heap.size wr wg := (Below.refl _ _).grown hg9 (Nat.le_refl _) (fun z hz => by cases hz)
               have hown9 : Hid (wg.ownsRow wr.heap.size 3 1 (.slice (some ⟨wr.heap.size, 0, none⟩) l.length l.length) l.length (isL (gr Cm C.length))) := Lib.hid (by rw [HRl.out.2]; exact hown9)
               clear hg9)
            | (at_builtin; (refine app_rowY (by rfl) _ _ (by rfl) wB.heap.size C.length l.length _ (gr Cm) wr (by rfl) HN2.out (hbg.alloc hbg.size _) wr.heap.size l.length (Nat.le_refl _) (owns_baseY (hown9.out.alloc _) hq9) HRl.out.1 (by omega) (by have := hbg.size; simp; omega) wg.heap.size (by rfl) (by simp [go_sem]) ?_); intro g6 c6 w6 hN6 hb6))
          have hbq : Below wB.heap.size wB w6 := (HBQ.out.trans ((hbg.mono hq9).alloc (by have := hbg.size; omega) _)).trans hb6
          obtain ⟨wr, rfl⟩ : ∃ wr9 : World, wr9 = w6 := ⟨_, rfl⟩
          have HM := Lib.hid hN6
          clear hN6 hb6 hown9 hbg HN2 HRl HGm p0 p1 p2 HBQ
          generalize hq1 : C.length + 1 = cl1 at *
          have hqa : cl1 ≤ C.length + 1 := by omega
          have hqb : C.length + 1 ≤ cl1 := by omega
          clear hq1
          have hkm2 : k < Cm.length := by rw [HNL.out]; exact hkm
          have hRm : RwOk l.length Cm i := by rw [HCM.out]; exact hRk.out.more k
          have hcm11 : cl1 ≤ 11 := by omega
          have HRp := Lib.hid (hRm.put (x := x) hkm2)
          obtain ⟨bk, ck, e1, e2, e3, e4, e5, e6, e7⟩ := HM.out.at hkm
          have cv := e4 x hxl
          have fz := e5 x
          have hy := (hRm k hkm2).2 x hxl
          have hrl := (hRm k hkm2).1
          have E7 := Lib.hid e7
          have HPT : Hid (pkT L K l n (szP K l (P.drop (i + 1))) C k x = (fitB L K l (gr (putR Cm k x) k) && pkF n (L + K) (szP K l (P.drop (i + 1))) (putR Cm k x).length (ldL K l (putR Cm k x)))) := Lib.hid (by rw [HCM.out]; rfl)
          have HTk := Lib.hid (HT.out k h1 h2)
          have HGp := Lib.hid (fun j => gr_putR Cm x hkm2 j)
          have HPL : Hid ((putR Cm k x).length = cl1) := Lib.hid ((putR_len Cm k x).trans HNL.out)
          clear hkm2
          clear hRm hRk e4 e5 e7 HT HF HM HCM hrl
          generalize hyy : gi (gr Cm k) x = y at *
          have HYY := Lib.hid hyy
          clear hyy
          have hbw := hSb.trans (hbq.mono hSb.size)
          have cx := cell_below cx hbw
          have hwy : IntKind.i64.wrap (y + 1) = y + 1 := IntWalk.i64_in _ (by omega)
          have hrb : Below w.heap.size w wr := hbw
          obtain ⟨-, p0, p1, p2⟩ := HS.out.on hbq
          have hlB : w.heap.size < wB.heap.size := block_lt HS.out.2.1
          have hne : bk ≠ w.heap.size := by omega
          clear HS
          go_still_tail 12, (by kernel_rfl)
          change wpList _ _ _ _ _ wr.drew
          have e1' : wr.drew.cell? ⟨g6, k, none⟩ = some (.slice (some ⟨bk, 0, none⟩) l.length ck) := e1
          have cv' : wr.drew.cell? ⟨bk, x, none⟩ = some (.int .i64 y) := cv
          have cx' : wr.drew.cell? ⟨pb, po + i, none⟩ = some (.int .i64 x) := cx
          have fz' : wr.drew.frozen? ⟨bk, x, none⟩ = false := fz
          have p0' : wr.drew.cell? ⟨w.heap.size, 0, none⟩ = some (.int .i64 L) := p0
          have p1' : wr.drew.cell? ⟨w.heap.size, 1, none⟩ = some (.int .i64 K) := p1
          have p2' : wr.drew.cell? ⟨w.heap.size, 2, none⟩ = some (.slice aa l.length ca) := p2
          have hbd : Below wB.heap.size wB wr.drew := hbq.drew
          have E8 := Lib.hid (fun y => E7.out wr.drew (Below.refl _ _).drew x y hxl)
          generalize wr.drew = wd at *
          clear e1 cv cx fz p0 p1 p2 hbq E7 hrb hbw
          have hsz := hbd.size
          have hbs : Below wB.heap.size wB (wd.setCell ⟨bk, x, none⟩ (.int .i64 (y + 1))) := hbd.setCell (p := ⟨bk, x, none⟩) (by simpa using e3) _
          have q0 : (wd.setCell ⟨bk, x, none⟩ (.int .i64 (y + 1))).cell? ⟨w.heap.size, 0, none⟩ = some (.int .i64 L) := (World.cell?_setCell_far _ _ _ _ hne).trans p0'
          have q1 : (wd.setCell ⟨bk, x, none⟩ (.int .i64 (y + 1))).cell? ⟨w.heap.size, 1, none⟩ = some (.int .i64 K) := (World.cell?_setCell_far _ _ _ _ hne).trans p1'
          have q2 : (wd.setCell ⟨bk, x, none⟩ (.int .i64 (y + 1))).cell? ⟨w.heap.size, 2, none⟩ = some (.slice aa l.length ca) := (World.cell?_setCell_far _ _ _ _ hne).trans p2'
          have HM2 := Lib.hid (E8.out (y + 1))
          go_upto_region 14 with (fail)
          generalize wd.setCell ⟨bk, x, none⟩ (.int .i64 (y + 1)) = ws at *
          have HM3 : NxR wB.heap.size ws (.slice (some ⟨g6, 0, none⟩) (cl1) c6) (cl1) l.length (gr (putR Cm k x)) := HM2.out.congr fun j hj => by rw [HGp.out j]
          have HRw : RowsS ws (some ⟨g6, 0, none⟩) (putR Cm k x) := HM3.rows HPL.out (by omega) (by omega) fun j hj z hz => by
            have := (HRp.out j (by rw [HPL.out]; exact hj)).2 z hz
            unfold I64
            omega
          have HRX := Lib.hid HRw
          obtain ⟨-, gz, oz, az, cz, hadz, hcz⟩ := HRw
          have hpl := HPL.out
          obtain ⟨rfl, rfl⟩ : g6 = gz ∧ oz = 0 := by have h9 := hadz (pos_ne (n := 0) (by rw [HPL.out]; omega)); simp at h9; exact ⟨h9.1, h9.2.symm⟩
          obtain ⟨cz1, cz2, cz3⟩ := hcz k (by omega)
          rw [Nat.zero_add] at cz1
          have hgl : (gr (putR Cm k x) k).length = l.length := (HRp.out k (by omega)).1
          have hbw : Below w.heap.size w ws := hSb.trans (hbs.mono hSb.size)
          have HFx : Hid (∀ W, Below ws.heap.size ws W → Calls Try.prog 37 #[.agg #[.int .i64 L, .int .i64 K, .slice aa l.length ca], .slice (az k) l.length (cz k)] W fun e w' => e = .returned (.bool (fitB L K l (gr (putR Cm k x) k))) ∧ Below W.heap.size W w') := Lib.hid fun W hW => by
            have := HFit.out W (hbw.trans (hW.mono hbw.size)) (az k) _ (cz k) (cz2.below hW) hgl
            rw [hgl] at this
            exact this
          have HPx : Hid (∀ W, Below ws.heap.size ws W → Calls Try.prog 21 #[.agg #[.int .i64 L, .int .i64 K, .slice aa l.length ca], .slice (some ⟨pb, po, none⟩) P.length cl, .int .i64 ((i : Int) + 1), .slice (some ⟨g6, 0, none⟩) (cl1) c6, .int .i64 n] W fun e w' => e = .returned (.bool (pkF n (L + K) (szP K l (P.drop (i + 1))) (putR Cm k x).length (ldL K l (putR Cm k x)))) ∧ Below W.heap.size W w') := Lib.hid fun W hW => by
            have := HRec.out W (hbw.trans (hW.mono hbw.size)) (some ⟨g6, 0, none⟩) (putR Cm k x) c6 (HRX.out.below hW) (by rw [HPL.out]; omega) HRp.out
            rw [HPL.out] at this ⊢
            exact this
          rw [hgl] at cz1
          have hpt := HPT.out
          generalize hfb : fitB L K l (gr (putR Cm k x) k) = fb at *
          generalize hrb : pkF n (L + K) (szP K l (P.drop (i + 1))) (putR Cm k x).length (ldL K l (putR Cm k x)) = rb at *
          generalize az k = azk at *
          generalize cz k = czk at *
          have hB := Below.refl ws.heap.size ws
          have hzq := block_lt q0
          have hzz := block_lt cz1
          have HPT2 := Lib.hid hpt
          clear hcz hadz cz2 cz3 HM2 HM3 HFit HRec HPT hpt HRX HRp hpl HPL hgl hfb hrb E8 HYY HGp e1' cv' cx' fz' p0' p1' p2' hbd
          have hwi : IntKind.i64.wrap ((i : Int) + 1) = (i : Int) + 1 := IntWalk.i64_in _ (by omega)
          cases fb with
          | false =>
            have hF : Hid (pkT L K l n (szP K l (P.drop (i + 1))) C k x = false) := Lib.hid (by rw [HPT2.out]; rfl)
            clear HPx HTk HPT2 HCl
            refine wp_region_held_drew (S := fun w' => Below ws.heap.size ws w') (by kernel_rfl) ((Below.refl _ _).drew) (fun hHeld => ?_)
            refine wpAnyH_take (i := 0) (oi := { dst := some 67, op := Op.load 24 (Operand.tmp 5), type := 24, pos := "ref.go:268", after := #[], guard := none }) (v := .agg #[.int .i64 L, .int .i64 K, .slice aa l.length ca]) rfl (by kernel_rfl) (by kernel_rfl) (by kernel_rfl) (fun _ _ _ h => h) (.inl ⟨by kernel_rfl, fun w9 h9 => by
              have h9 : Below ws.heap.size ws w9 := h9
              have d0 := cell_below q0 h9
              have d1 := cell_below q1 h9
              have d2 := cell_below q2 h9
              clear h9
              go_simp⟩) hHeld ?_
            refine takeU (i := 1) (some 68) (.slice (some ⟨g6, 0, none⟩) (cl1) c6) (by kernel_rfl) (by kernel_rfl) (by kernel_rfl) (by kernel_rfl) (by kernel_rfl) (fun _ => by kernel_rfl) (fun _ _ _ h => h) hHeld ?_
            refine takeU (i := 2) (some 69) (.int .i64 k) (by kernel_rfl) (by kernel_rfl) (by kernel_rfl) (by kernel_rfl) (by kernel_rfl) (fun _ => by kernel_rfl) (fun _ _ _ h => h) hHeld ?_
            refine wpAnyH_take (i := 3) (oi := { dst := some 70, op := Op.indexAddr 74 (Operand.tmp 68) (Operand.tmp 69), type := 0, pos := "ref.go:268", after := #[{ on := 1, ground := Ground.data }, { on := 2, ground := Ground.data }], guard := none }) (v := .pointer (some ⟨g6, k, none⟩)) rfl (by kernel_rfl) (by kernel_rfl) (by kernel_rfl) (fun _ _ _ h => h) (.inl ⟨by kernel_rfl, fun w9 h9 => by
              have h9 : Below ws.heap.size ws w9 := h9
              clear h9
              go_simp⟩) hHeld ?_
            refine wpAnyH_take (i := 4) (oi := { dst := some 71, op := Op.load 33 (Operand.tmp 70), type := 33, pos := "ref.go:268", after := #[{ on := 3, ground := Ground.data }], guard := none }) (v := .slice azk l.length czk) rfl (by kernel_rfl) (by kernel_rfl) (by kernel_rfl) (fun _ _ _ h => h) (.inl ⟨by kernel_rfl, fun w9 h9 => by
              have h9 : Below ws.heap.size ws w9 := h9
              have d0 := cell_below cz1 h9
              clear h9
              go_simp⟩) hHeld ?_
            simp only [Act.put, List.setIfInBounds_toArray, List.set_cons_zero, List.set_cons_succ]
            refine wpAnyH_ready (rs := [5]) (by kernel_rfl) (by simp) ?_
            refine AllReadyH.cons (o := { dst := some 72, op := Op.call { callee := Callee.value (Operand.func 37), args := #[Operand.tmp 67, Operand.tmp 71], argTypes := #[24, 33] }, type := 4, pos := "ref.go:268", after := #[{ on := 0, ground := Ground.data }, { on := 4, ground := Ground.data }], guard := none }) rfl (fun K hK => ?_) AllReadyH.nil
            go_simp
            go_at_call 37
            refine (HFx.out _ hHeld).mono ?_
            rintro E w9 ⟨rfl, hb9⟩
            refine hK.out _ _ (hHeld.trans (hb9.mono hHeld.size)) (fun hHeld => ?_)
            clear hK K
            try simp only [Act.put, List.setIfInBounds_toArray, List.set_cons_zero, List.set_cons_succ]
            refine takeU (i := 6) (some 73) (.bool false) (by kernel_rfl) (by kernel_rfl) (by kernel_rfl) (by kernel_rfl) (by kernel_rfl) (fun _ => by kernel_rfl) (fun _ _ _ h => h) hHeld ?_
            refine skipU (i := 7) (some 74) (by kernel_rfl) (by kernel_rfl) (by kernel_rfl) (by kernel_rfl) (by kernel_rfl) (fun _ _ _ h => h) hHeld ?_
            refine skipU (i := 8) (some 75) (by kernel_rfl) (by kernel_rfl) (by kernel_rfl) (by kernel_rfl) (by kernel_rfl) (fun _ _ _ h => h) hHeld ?_
            refine skipU (i := 9) (some 76) (by kernel_rfl) (by kernel_rfl) (by kernel_rfl) (by kernel_rfl) (by kernel_rfl) (fun _ _ _ h => h) hHeld ?_
            refine skipU (i := 10) (some 77) (by kernel_rfl) (by kernel_rfl) (by kernel_rfl) (by kernel_rfl) (by kernel_rfl) (fun _ _ _ h => h) hHeld ?_
            refine skipU (i := 11) (some 78) (by kernel_rfl) (by kernel_rfl) (by kernel_rfl) (by kernel_rfl) (by kernel_rfl) (fun _ _ _ h => h) hHeld ?_
            refine skipU (i := 12) (some 79) (by kernel_rfl) (by kernel_rfl) (by kernel_rfl) (by kernel_rfl) (by kernel_rfl) (fun _ _ _ h => h) hHeld ?_
            refine skipU (i := 13) (some 80) (by kernel_rfl) (by kernel_rfl) (by kernel_rfl) (by kernel_rfl) (by kernel_rfl) (fun _ _ _ h => h) hHeld ?_
            refine takeU (i := 14) (some 81) (.bool false) (by kernel_rfl) (by kernel_rfl) (by kernel_rfl) (by kernel_rfl) (by kernel_rfl) (fun _ => by kernel_rfl) (fun _ _ _ h => h) hHeld ?_
            refine wpAnyH_done (by kernel_rfl) ?_ _
            try simp only [Act.put, List.setIfInBounds_toArray, List.set_cons_zero, List.set_cons_succ]
            go_wp2_with fail
            go_roundw
            case rel =>
              refine ⟨k + 1, by omega, by omega, by go_num, hbs.trans (hHeld.mono hbs.size), Lib.hid fun j hj => ?_⟩
              by_cases e : j = k
              · subst e; exact hF.out
              · exact HFk.out j (by omega)
            case measure => simp [intOf]; omega
          | true =>
            cases rb with
            | false =>
              have hF : Hid (pkT L K l n (szP K l (P.drop (i + 1))) C k x = false) := Lib.hid (by rw [HPT2.out]; rfl)
              clear HTk HPT2 HCl
              go_region_held3 (fun w' => w'.cell? ⟨w.heap.size, 0, none⟩ = some (.int .i64 L) ∧ w'.cell? ⟨w.heap.size, 1, none⟩ = some (.int .i64 K) ∧ w'.cell? ⟨w.heap.size, 2, none⟩ = some (.slice aa l.length ca) ∧ w'.cell? ⟨g6, k, none⟩ = some (.slice azk l.length czk)) (go_keep)
                (first
                  | (go_at_call 37
                     refine (HFx.out _ (by first | exact hB.drew | exact hB | exact hB.drew.drew | exact below_drewN hB _ | exact below_drewN hB.drew _)).mono ?_
                     rintro E w9 ⟨rfl, hb9⟩
                     have q0 := (hb9.cell (p := ⟨w.heap.size, 0, none⟩) hzq).trans q0
                     have q1 := (hb9.cell (p := ⟨w.heap.size, 1, none⟩) hzq).trans q1
                     have q2 := (hb9.cell (p := ⟨w.heap.size, 2, none⟩) hzq).trans q2
                     have cz1 := (hb9.cell (p := ⟨g6, k, none⟩) hzz).trans cz1
                     have hB : Below ws.heap.size ws w9 := by first | exact (hB.drew).trans (hb9.mono hB.size) | exact hB.trans (hb9.mono hB.size)
                     have hzq := Nat.lt_of_lt_of_le hzq hb9.size
                     have hzz := Nat.lt_of_lt_of_le hzz hb9.size)
                  | (go_at_call 21
                     refine (HPx.out _ (by first | exact hB.drew | exact hB | exact hB.drew.drew | exact below_drewN hB _ | exact below_drewN hB.drew _)).mono ?_
                     rintro E w9 ⟨rfl, hb9⟩
                     have q0 := (hb9.cell (p := ⟨w.heap.size, 0, none⟩) hzq).trans q0
                     have q1 := (hb9.cell (p := ⟨w.heap.size, 1, none⟩) hzq).trans q1
                     have q2 := (hb9.cell (p := ⟨w.heap.size, 2, none⟩) hzq).trans q2
                     have cz1 := (hb9.cell (p := ⟨g6, k, none⟩) hzz).trans cz1
                     have hB : Below ws.heap.size ws w9 := by first | exact (hB.drew).trans (hb9.mono hB.size) | exact hB.trans (hb9.mono hB.size)
                     have hzq := Nat.lt_of_lt_of_le hzq hb9.size
                     have hzz := Nat.lt_of_lt_of_le hzz hb9.size))
              all_goals
                go_wp2_with fail
                go_roundw
                case rel =>
                  refine ⟨k + 1, by omega, by omega, by go_num, by first | exact hbs.trans (hB.mono hbs.size) | exact hbs.trans ((hB.drew).mono hbs.size), Lib.hid fun j hj => ?_⟩
                  by_cases e : j = k
                  · subst e; exact hF.out
                  · exact HFk.out j (by omega)
                case measure => simp [intOf]; omega
            | true =>
              have hr : Hid (RES = true) := Lib.hid (HTk.out (by rw [HPT2.out]; rfl))
              clear HTk HPT2 HCl
              go_region_held3 (fun w' => w'.cell? ⟨w.heap.size, 0, none⟩ = some (.int .i64 L) ∧ w'.cell? ⟨w.heap.size, 1, none⟩ = some (.int .i64 K) ∧ w'.cell? ⟨w.heap.size, 2, none⟩ = some (.slice aa l.length ca) ∧ w'.cell? ⟨g6, k, none⟩ = some (.slice azk l.length czk)) (go_keep)
                (first
                  | (go_at_call 37
                     refine (HFx.out _ (by first | exact hB.drew | exact hB | exact hB.drew.drew | exact below_drewN hB _ | exact below_drewN hB.drew _)).mono ?_
                     rintro E w9 ⟨rfl, hb9⟩
                     have q0 := (hb9.cell (p := ⟨w.heap.size, 0, none⟩) hzq).trans q0
                     have q1 := (hb9.cell (p := ⟨w.heap.size, 1, none⟩) hzq).trans q1
                     have q2 := (hb9.cell (p := ⟨w.heap.size, 2, none⟩) hzq).trans q2
                     have cz1 := (hb9.cell (p := ⟨g6, k, none⟩) hzz).trans cz1
                     have hB : Below ws.heap.size ws w9 := by first | exact (hB.drew).trans (hb9.mono hB.size) | exact hB.trans (hb9.mono hB.size)
                     have hzq := Nat.lt_of_lt_of_le hzq hb9.size
                     have hzz := Nat.lt_of_lt_of_le hzz hb9.size)
                  | (go_at_call 21
                     refine (HPx.out _ (by first | exact hB.drew | exact hB | exact hB.drew.drew | exact below_drewN hB _ | exact below_drewN hB.drew _)).mono ?_
                     rintro E w9 ⟨rfl, hb9⟩
                     have q0 := (hb9.cell (p := ⟨w.heap.size, 0, none⟩) hzq).trans q0
                     have q1 := (hb9.cell (p := ⟨w.heap.size, 1, none⟩) hzq).trans q1
                     have q2 := (hb9.cell (p := ⟨w.heap.size, 2, none⟩) hzq).trans q2
                     have cz1 := (hb9.cell (p := ⟨g6, k, none⟩) hzz).trans cz1
                     have hB : Below ws.heap.size ws w9 := by first | exact (hB.drew).trans (hb9.mono hB.size) | exact hB.trans (hb9.mono hB.size)
                     have hzq := Nat.lt_of_lt_of_le hzq hb9.size
                     have hzz := Nat.lt_of_lt_of_le hzz hb9.size))
              all_goals
                go_wp2_with fail
                go_ret
                first | exact ⟨by rw [hr.out]; rfl, hbw.trans (hB.mono hbw.size)⟩ | exact ⟨by rw [hr.out]; rfl, hbw.trans ((hB.drew).mono hbw.size)⟩
        · have hkd : ((k : Int) == (C.length : Int)) = false := beq_false_of_ne (by omega)
          obtain ⟨g6, c6, rfl⟩ := hN.out.shape (by omega)
          obtain ⟨Cm, hCm⟩ : ∃ Cm, Cm = moreR l.length C k := ⟨_, rfl⟩
          have hCC : C = Cm := by rw [hCm]; unfold moreR; rw [if_neg hkc]
          have HNL : Hid (Cm.length = C.length) := Lib.hid (by rw [← hCC])
          have HM : Hid (NxR wB.heap.size wr (.slice (some ⟨g6, 0, none⟩) C.length c6) C.length l.length (gr Cm)) := Lib.hid (by rw [← hCC]; exact hN.out)
          have hkm : k < C.length := by omega
          have HCM := Lib.hid hCm
          clear hN hCC hCm
          go_wp2_with fail
          have hkm2 : k < Cm.length := by rw [HNL.out]; exact hkm
          have hRm : RwOk l.length Cm i := by rw [HCM.out]; exact hRk.out.more k
          have hcm11 : C.length ≤ 11 := by omega
          have HRp := Lib.hid (hRm.put (x := x) hkm2)
          obtain ⟨bk, ck, e1, e2, e3, e4, e5, e6, e7⟩ := HM.out.at hkm
          have cv := e4 x hxl
          have fz := e5 x
          have hy := (hRm k hkm2).2 x hxl
          have hrl := (hRm k hkm2).1
          have E7 := Lib.hid e7
          have HPT : Hid (pkT L K l n (szP K l (P.drop (i + 1))) C k x = (fitB L K l (gr (putR Cm k x) k) && pkF n (L + K) (szP K l (P.drop (i + 1))) (putR Cm k x).length (ldL K l (putR Cm k x)))) := Lib.hid (by rw [HCM.out]; rfl)
          have HTk := Lib.hid (HT.out k h1 h2)
          have HGp := Lib.hid (fun j => gr_putR Cm x hkm2 j)
          have HPL : Hid ((putR Cm k x).length = C.length) := Lib.hid ((putR_len Cm k x).trans HNL.out)
          clear hkm2
          clear hRm hRk e4 e5 e7 HT HF HM HCM hrl
          generalize hyy : gi (gr Cm k) x = y at *
          have HYY := Lib.hid hyy
          clear hyy
          have hbw := hSb.trans (hbq.mono hSb.size)
          have cx := cell_below cx hbw
          have hwy : IntKind.i64.wrap (y + 1) = y + 1 := IntWalk.i64_in _ (by omega)
          have hrb : Below w.heap.size w wr := hbw
          obtain ⟨-, p0, p1, p2⟩ := HS.out.on hbq
          have hlB : w.heap.size < wB.heap.size := block_lt HS.out.2.1
          have hne : bk ≠ w.heap.size := by omega
          clear HS
          go_still_tail 12, (by kernel_rfl)
          change wpList _ _ _ _ _ wr.drew
          have e1' : wr.drew.cell? ⟨g6, k, none⟩ = some (.slice (some ⟨bk, 0, none⟩) l.length ck) := e1
          have cv' : wr.drew.cell? ⟨bk, x, none⟩ = some (.int .i64 y) := cv
          have cx' : wr.drew.cell? ⟨pb, po + i, none⟩ = some (.int .i64 x) := cx
          have fz' : wr.drew.frozen? ⟨bk, x, none⟩ = false := fz
          have p0' : wr.drew.cell? ⟨w.heap.size, 0, none⟩ = some (.int .i64 L) := p0
          have p1' : wr.drew.cell? ⟨w.heap.size, 1, none⟩ = some (.int .i64 K) := p1
          have p2' : wr.drew.cell? ⟨w.heap.size, 2, none⟩ = some (.slice aa l.length ca) := p2
          have hbd : Below wB.heap.size wB wr.drew := hbq.drew
          have E8 := Lib.hid (fun y => E7.out wr.drew (Below.refl _ _).drew x y hxl)
          generalize wr.drew = wd at *
          clear e1 cv cx fz p0 p1 p2 hbq E7 hrb hbw
          have hsz := hbd.size
          have hbs : Below wB.heap.size wB (wd.setCell ⟨bk, x, none⟩ (.int .i64 (y + 1))) := hbd.setCell (p := ⟨bk, x, none⟩) (by simpa using e3) _
          have q0 : (wd.setCell ⟨bk, x, none⟩ (.int .i64 (y + 1))).cell? ⟨w.heap.size, 0, none⟩ = some (.int .i64 L) := (World.cell?_setCell_far _ _ _ _ hne).trans p0'
          have q1 : (wd.setCell ⟨bk, x, none⟩ (.int .i64 (y + 1))).cell? ⟨w.heap.size, 1, none⟩ = some (.int .i64 K) := (World.cell?_setCell_far _ _ _ _ hne).trans p1'
          have q2 : (wd.setCell ⟨bk, x, none⟩ (.int .i64 (y + 1))).cell? ⟨w.heap.size, 2, none⟩ = some (.slice aa l.length ca) := (World.cell?_setCell_far _ _ _ _ hne).trans p2'
          have HM2 := Lib.hid (E8.out (y + 1))
          go_upto_region 14 with (fail)
          generalize wd.setCell ⟨bk, x, none⟩ (.int .i64 (y + 1)) = ws at *
          have HM3 : NxR wB.heap.size ws (.slice (some ⟨g6, 0, none⟩) (C.length) c6) (C.length) l.length (gr (putR Cm k x)) := HM2.out.congr fun j hj => by rw [HGp.out j]
          have HRw : RowsS ws (some ⟨g6, 0, none⟩) (putR Cm k x) := HM3.rows HPL.out (by omega) (by omega) fun j hj z hz => by
            have := (HRp.out j (by rw [HPL.out]; exact hj)).2 z hz
            unfold I64
            omega
          have HRX := Lib.hid HRw
          obtain ⟨-, gz, oz, az, cz, hadz, hcz⟩ := HRw
          have hpl := HPL.out
          obtain ⟨rfl, rfl⟩ : g6 = gz ∧ oz = 0 := by have h9 := hadz (pos_ne (n := 0) (by rw [HPL.out]; omega)); simp at h9; exact ⟨h9.1, h9.2.symm⟩
          obtain ⟨cz1, cz2, cz3⟩ := hcz k (by omega)
          rw [Nat.zero_add] at cz1
          have hgl : (gr (putR Cm k x) k).length = l.length := (HRp.out k (by omega)).1
          have hbw : Below w.heap.size w ws := hSb.trans (hbs.mono hSb.size)
          have HFx : Hid (∀ W, Below ws.heap.size ws W → Calls Try.prog 37 #[.agg #[.int .i64 L, .int .i64 K, .slice aa l.length ca], .slice (az k) l.length (cz k)] W fun e w' => e = .returned (.bool (fitB L K l (gr (putR Cm k x) k))) ∧ Below W.heap.size W w') := Lib.hid fun W hW => by
            have := HFit.out W (hbw.trans (hW.mono hbw.size)) (az k) _ (cz k) (cz2.below hW) hgl
            rw [hgl] at this
            exact this
          have HPx : Hid (∀ W, Below ws.heap.size ws W → Calls Try.prog 21 #[.agg #[.int .i64 L, .int .i64 K, .slice aa l.length ca], .slice (some ⟨pb, po, none⟩) P.length cl, .int .i64 ((i : Int) + 1), .slice (some ⟨g6, 0, none⟩) (C.length) c6, .int .i64 n] W fun e w' => e = .returned (.bool (pkF n (L + K) (szP K l (P.drop (i + 1))) (putR Cm k x).length (ldL K l (putR Cm k x)))) ∧ Below W.heap.size W w') := Lib.hid fun W hW => by
            have := HRec.out W (hbw.trans (hW.mono hbw.size)) (some ⟨g6, 0, none⟩) (putR Cm k x) c6 (HRX.out.below hW) (by rw [HPL.out]; omega) HRp.out
            rw [HPL.out] at this ⊢
            exact this
          rw [hgl] at cz1
          have hpt := HPT.out
          generalize hfb : fitB L K l (gr (putR Cm k x) k) = fb at *
          generalize hrb : pkF n (L + K) (szP K l (P.drop (i + 1))) (putR Cm k x).length (ldL K l (putR Cm k x)) = rb at *
          generalize az k = azk at *
          generalize cz k = czk at *
          have hB := Below.refl ws.heap.size ws
          have hzq := block_lt q0
          have hzz := block_lt cz1
          have HPT2 := Lib.hid hpt
          clear hcz hadz cz2 cz3 HM2 HM3 HFit HRec HPT hpt HRX HRp hpl HPL hgl hfb hrb E8 HYY HGp e1' cv' cx' fz' p0' p1' p2' hbd
          have hwi : IntKind.i64.wrap ((i : Int) + 1) = (i : Int) + 1 := IntWalk.i64_in _ (by omega)
          cases fb with
          | false =>
            have hF : Hid (pkT L K l n (szP K l (P.drop (i + 1))) C k x = false) := Lib.hid (by rw [HPT2.out]; rfl)
            clear HPx HTk HPT2 HCl
            refine wp_region_held_drew (S := fun w' => Below ws.heap.size ws w') (by kernel_rfl) ((Below.refl _ _).drew) (fun hHeld => ?_)
            refine wpAnyH_take (i := 0) (oi := { dst := some 67, op := Op.load 24 (Operand.tmp 5), type := 24, pos := "ref.go:268", after := #[], guard := none }) (v := .agg #[.int .i64 L, .int .i64 K, .slice aa l.length ca]) rfl (by kernel_rfl) (by kernel_rfl) (by kernel_rfl) (fun _ _ _ h => h) (.inl ⟨by kernel_rfl, fun w9 h9 => by
              have h9 : Below ws.heap.size ws w9 := h9
              have d0 := cell_below q0 h9
              have d1 := cell_below q1 h9
              have d2 := cell_below q2 h9
              clear h9
              go_simp⟩) hHeld ?_
            refine takeU (i := 1) (some 68) (.slice (some ⟨g6, 0, none⟩) (C.length) c6) (by kernel_rfl) (by kernel_rfl) (by kernel_rfl) (by kernel_rfl) (by kernel_rfl) (fun _ => by kernel_rfl) (fun _ _ _ h => h) hHeld ?_
            refine takeU (i := 2) (some 69) (.int .i64 k) (by kernel_rfl) (by kernel_rfl) (by kernel_rfl) (by kernel_rfl) (by kernel_rfl) (fun _ => by kernel_rfl) (fun _ _ _ h => h) hHeld ?_
            refine wpAnyH_take (i := 3) (oi := { dst := some 70, op := Op.indexAddr 74 (Operand.tmp 68) (Operand.tmp 69), type := 0, pos := "ref.go:268", after := #[{ on := 1, ground := Ground.data }, { on := 2, ground := Ground.data }], guard := none }) (v := .pointer (some ⟨g6, k, none⟩)) rfl (by kernel_rfl) (by kernel_rfl) (by kernel_rfl) (fun _ _ _ h => h) (.inl ⟨by kernel_rfl, fun w9 h9 => by
              have h9 : Below ws.heap.size ws w9 := h9
              clear h9
              go_simp⟩) hHeld ?_
            refine wpAnyH_take (i := 4) (oi := { dst := some 71, op := Op.load 33 (Operand.tmp 70), type := 33, pos := "ref.go:268", after := #[{ on := 3, ground := Ground.data }], guard := none }) (v := .slice azk l.length czk) rfl (by kernel_rfl) (by kernel_rfl) (by kernel_rfl) (fun _ _ _ h => h) (.inl ⟨by kernel_rfl, fun w9 h9 => by
              have h9 : Below ws.heap.size ws w9 := h9
              have d0 := cell_below cz1 h9
              clear h9
              go_simp⟩) hHeld ?_
            simp only [Act.put, List.setIfInBounds_toArray, List.set_cons_zero, List.set_cons_succ]
            refine wpAnyH_ready (rs := [5]) (by kernel_rfl) (by simp) ?_
            refine AllReadyH.cons (o := { dst := some 72, op := Op.call { callee := Callee.value (Operand.func 37), args := #[Operand.tmp 67, Operand.tmp 71], argTypes := #[24, 33] }, type := 4, pos := "ref.go:268", after := #[{ on := 0, ground := Ground.data }, { on := 4, ground := Ground.data }], guard := none }) rfl (fun K hK => ?_) AllReadyH.nil
            go_simp
            go_at_call 37
            refine (HFx.out _ hHeld).mono ?_
            rintro E w9 ⟨rfl, hb9⟩
            refine hK.out _ _ (hHeld.trans (hb9.mono hHeld.size)) (fun hHeld => ?_)
            clear hK K
            try simp only [Act.put, List.setIfInBounds_toArray, List.set_cons_zero, List.set_cons_succ]
            refine takeU (i := 6) (some 73) (.bool false) (by kernel_rfl) (by kernel_rfl) (by kernel_rfl) (by kernel_rfl) (by kernel_rfl) (fun _ => by kernel_rfl) (fun _ _ _ h => h) hHeld ?_
            refine skipU (i := 7) (some 74) (by kernel_rfl) (by kernel_rfl) (by kernel_rfl) (by kernel_rfl) (by kernel_rfl) (fun _ _ _ h => h) hHeld ?_
            refine skipU (i := 8) (some 75) (by kernel_rfl) (by kernel_rfl) (by kernel_rfl) (by kernel_rfl) (by kernel_rfl) (fun _ _ _ h => h) hHeld ?_
            refine skipU (i := 9) (some 76) (by kernel_rfl) (by kernel_rfl) (by kernel_rfl) (by kernel_rfl) (by kernel_rfl) (fun _ _ _ h => h) hHeld ?_
            refine skipU (i := 10) (some 77) (by kernel_rfl) (by kernel_rfl) (by kernel_rfl) (by kernel_rfl) (by kernel_rfl) (fun _ _ _ h => h) hHeld ?_
            refine skipU (i := 11) (some 78) (by kernel_rfl) (by kernel_rfl) (by kernel_rfl) (by kernel_rfl) (by kernel_rfl) (fun _ _ _ h => h) hHeld ?_
            refine skipU (i := 12) (some 79) (by kernel_rfl) (by kernel_rfl) (by kernel_rfl) (by kernel_rfl) (by kernel_rfl) (fun _ _ _ h => h) hHeld ?_
            refine skipU (i := 13) (some 80) (by kernel_rfl) (by kernel_rfl) (by kernel_rfl) (by kernel_rfl) (by kernel_rfl) (fun _ _ _ h => h) hHeld ?_
            refine takeU (i := 14) (some 81) (.bool false) (by kernel_rfl) (by kernel_rfl) (by kernel_rfl) (by kernel_rfl) (by kernel_rfl) (fun _ => by kernel_rfl) (fun _ _ _ h => h) hHeld ?_
            refine wpAnyH_done (by kernel_rfl) ?_ _
            try simp only [Act.put, List.setIfInBounds_toArray, List.set_cons_zero, List.set_cons_succ]
            go_wp2_with fail
            go_roundw
            case rel =>
              refine ⟨k + 1, by omega, by omega, by go_num, hbs.trans (hHeld.mono hbs.size), Lib.hid fun j hj => ?_⟩
              by_cases e : j = k
              · subst e; exact hF.out
              · exact HFk.out j (by omega)
            case measure => simp [intOf]; omega
          | true =>
            cases rb with
            | false =>
              have hF : Hid (pkT L K l n (szP K l (P.drop (i + 1))) C k x = false) := Lib.hid (by rw [HPT2.out]; rfl)
              clear HTk HPT2 HCl
              go_region_held3 (fun w' => w'.cell? ⟨w.heap.size, 0, none⟩ = some (.int .i64 L) ∧ w'.cell? ⟨w.heap.size, 1, none⟩ = some (.int .i64 K) ∧ w'.cell? ⟨w.heap.size, 2, none⟩ = some (.slice aa l.length ca) ∧ w'.cell? ⟨g6, k, none⟩ = some (.slice azk l.length czk)) (go_keep)
                (first
                  | (go_at_call 37
                     refine (HFx.out _ (by first | exact hB.drew | exact hB | exact hB.drew.drew | exact below_drewN hB _ | exact below_drewN hB.drew _)).mono ?_
                     rintro E w9 ⟨rfl, hb9⟩
                     have q0 := (hb9.cell (p := ⟨w.heap.size, 0, none⟩) hzq).trans q0
                     have q1 := (hb9.cell (p := ⟨w.heap.size, 1, none⟩) hzq).trans q1
                     have q2 := (hb9.cell (p := ⟨w.heap.size, 2, none⟩) hzq).trans q2
                     have cz1 := (hb9.cell (p := ⟨g6, k, none⟩) hzz).trans cz1
                     have hB : Below ws.heap.size ws w9 := by first | exact (hB.drew).trans (hb9.mono hB.size) | exact hB.trans (hb9.mono hB.size)
                     have hzq := Nat.lt_of_lt_of_le hzq hb9.size
                     have hzz := Nat.lt_of_lt_of_le hzz hb9.size)
                  | (go_at_call 21
                     refine (HPx.out _ (by first | exact hB.drew | exact hB | exact hB.drew.drew | exact below_drewN hB _ | exact below_drewN hB.drew _)).mono ?_
                     rintro E w9 ⟨rfl, hb9⟩
                     have q0 := (hb9.cell (p := ⟨w.heap.size, 0, none⟩) hzq).trans q0
                     have q1 := (hb9.cell (p := ⟨w.heap.size, 1, none⟩) hzq).trans q1
                     have q2 := (hb9.cell (p := ⟨w.heap.size, 2, none⟩) hzq).trans q2
                     have cz1 := (hb9.cell (p := ⟨g6, k, none⟩) hzz).trans cz1
                     have hB : Below ws.heap.size ws w9 := by first | exact (hB.drew).trans (hb9.mono hB.size) | exact hB.trans (hb9.mono hB.size)
                     have hzq := Nat.lt_of_lt_of_le hzq hb9.size
                     have hzz := Nat.lt_of_lt_of_le hzz hb9.size))
              all_goals
                go_wp2_with fail
                go_roundw
                case rel =>
                  refine ⟨k + 1, by omega, by omega, by go_num, by first | exact hbs.trans (hB.mono hbs.size) | exact hbs.trans ((hB.drew).mono hbs.size), Lib.hid fun j hj => ?_⟩
                  by_cases e : j = k
                  · subst e; exact hF.out
                  · exact HFk.out j (by omega)
                case measure => simp [intOf]; omega
            | true =>
              have hr : Hid (RES = true) := Lib.hid (HTk.out (by rw [HPT2.out]; rfl))
              clear HTk HPT2 HCl
              go_region_held3 (fun w' => w'.cell? ⟨w.heap.size, 0, none⟩ = some (.int .i64 L) ∧ w'.cell? ⟨w.heap.size, 1, none⟩ = some (.int .i64 K) ∧ w'.cell? ⟨w.heap.size, 2, none⟩ = some (.slice aa l.length ca) ∧ w'.cell? ⟨g6, k, none⟩ = some (.slice azk l.length czk)) (go_keep)
                (first
                  | (go_at_call 37
                     refine (HFx.out _ (by first | exact hB.drew | exact hB | exact hB.drew.drew | exact below_drewN hB _ | exact below_drewN hB.drew _)).mono ?_
                     rintro E w9 ⟨rfl, hb9⟩
                     have q0 := (hb9.cell (p := ⟨w.heap.size, 0, none⟩) hzq).trans q0
                     have q1 := (hb9.cell (p := ⟨w.heap.size, 1, none⟩) hzq).trans q1
                     have q2 := (hb9.cell (p := ⟨w.heap.size, 2, none⟩) hzq).trans q2
                     have cz1 := (hb9.cell (p := ⟨g6, k, none⟩) hzz).trans cz1
                     have hB : Below ws.heap.size ws w9 := by first | exact (hB.drew).trans (hb9.mono hB.size) | exact hB.trans (hb9.mono hB.size)
                     have hzq := Nat.lt_of_lt_of_le hzq hb9.size
                     have hzz := Nat.lt_of_lt_of_le hzz hb9.size)
                  | (go_at_call 21
                     refine (HPx.out _ (by first | exact hB.drew | exact hB | exact hB.drew.drew | exact below_drewN hB _ | exact below_drewN hB.drew _)).mono ?_
                     rintro E w9 ⟨rfl, hb9⟩
                     have q0 := (hb9.cell (p := ⟨w.heap.size, 0, none⟩) hzq).trans q0
                     have q1 := (hb9.cell (p := ⟨w.heap.size, 1, none⟩) hzq).trans q1
                     have q2 := (hb9.cell (p := ⟨w.heap.size, 2, none⟩) hzq).trans q2
                     have cz1 := (hb9.cell (p := ⟨g6, k, none⟩) hzz).trans cz1
                     have hB : Below ws.heap.size ws w9 := by first | exact (hB.drew).trans (hb9.mono hB.size) | exact hB.trans (hb9.mono hB.size)
                     have hzq := Nat.lt_of_lt_of_le hzq hb9.size
                     have hzz := Nat.lt_of_lt_of_le hzz hb9.size))
              all_goals
                go_wp2_with fail
                go_ret
                first | exact ⟨by rw [hr.out]; rfl, hbw.trans (hB.mono hbw.size)⟩ | exact ⟨by rw [hr.out]; rfl, hbw.trans ((hB.drew).mono hbw.size)⟩
theorem pack_all (L K : Int) (l : List (Int × Int)) (hV : CutOk L K l) (n : Nat) (hn : n ≤ 100) : ∀ m, PackC L K l n m
  | 0 => pack_0 L K l n
  | m + 1 => pack_s L K l hV n hn m (pack_all L K l hV n hn m)
end Go.Proofs.Ytmeoekcajmgiaaa
