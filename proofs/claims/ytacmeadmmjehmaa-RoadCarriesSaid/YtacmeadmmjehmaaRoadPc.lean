/-
  The reference's toward, step, moved, carry and Carry. By an AI agent.
-/
import Derived.Test.YtacmeadmmjehmaaRoadPm
namespace Go.Proofs.Ytacmeadmmjehmaa
set_option linter.unusedVariables false
set_option linter.unusedSimpArgs false
open Go.RowKit

theorem toward_any (v u : Int) (w : World) (h0 : 0 ≤ v ∧ v ≤ 100) :
    Calls Try.prog 84 #[.int .i64 v, .int .i64 u] w fun e w' => e = .returned (.int .i64 (if v < u then v + 1 else v - 1)) ∧ w = w' := by
  obtain ⟨v0, v1⟩ := h0
  by_cases h : v < u
  · rw [if_pos h]
    go_enter Try.func84, Try.ntmps84
    go_wp2
    go_ret
    exact ⟨rfl, rfl⟩
  · rw [if_neg h]
    go_enter Try.func84, Try.ntmps84
    go_wp2
    go_ret
    exact ⟨rfl, rfl⟩
set_option maxRecDepth 100000 in
set_option maxHeartbeats 1000000 in
theorem step_up (N L : Int) (a : Option Addr) (l : List Chg) (ca : Nat) (v u : Nat) (w : World) (hA : QuadS w a l) (hR : RoadOk N L l) (hv : v < l.length) (hc : (v : Int) < (u : Int)) :
    Calls Try.prog 85 #[.agg #[.int .i64 N, .int .i64 L, .slice a l.length ca], .int .i64 v, .int .i64 u] w fun e w' => e = .returned (.agg #[.int .i64 (gc l v).2.1, .int .i64 ((gc l v).2.2.1 - (gc l v).2.1), .int .i64 (gc l v).2.2.2]) ∧ Below w.heap.size w w' := by
  obtain ⟨hlen, -, blk, off, hadr, hcc⟩ := hA
  obtain rfl := hadr (pos_ne (n := 0) (i := 0) (by omega))
  obtain ⟨c0, c1, c2, c3⟩ := hcc v hv
  have hl := len_bd hR v (by omega)
  obtain ⟨⟨-, ⟨f0, f1⟩, ⟨t0, t1⟩, ft, m0, m1⟩, -⟩ := hR.2.2.2 v hv
  have hkl : (v : Int) < (l.length : Int) := by omega
  have hk0 : (0 : Int) ≤ (v : Int) := by omega
  have hz := block_lt c0
  have hzn : blk ≠ w.heap.size := by omega
  have hzn2 : blk ≠ w.heap.size + 1 := by omega
  clear hcc hadr hR
  generalize lenK L l v = n at *
  generalize (gc l v).1 = d at *
  generalize (gc l v).2.1 = f at *
  generalize (gc l v).2.2.1 = t at *
  generalize (gc l v).2.2.2 = m at *
  obtain ⟨n0, n1⟩ := hl
  go_enter Try.func85, Try.ntmps85
  go_wp2_with fail
  exact bodyPost_ret (v := .agg #[.int .i64 f, .int .i64 (t - f), .int .i64 m]) (by simp [results, Try.results85, go_sem]) rfl ⟨rfl, by repeat (first | exact Below.refl _ _ | refine Below.setCell ?_ (by simp) _ | refine Below.alloc ?_ (by first | exact Nat.le_refl _ | (simp; done) | (simp; omega)) _)⟩
set_option maxRecDepth 100000 in
set_option maxHeartbeats 1000000 in
theorem step_dn (N L : Int) (a : Option Addr) (l : List Chg) (ca : Nat) (v u : Nat) (w : World) (hA : QuadS w a l) (hR : RoadOk N L l) (hv : u < l.length) (hc : ¬ (v : Int) < (u : Int)) :
    Calls Try.prog 85 #[.agg #[.int .i64 N, .int .i64 L, .slice a l.length ca], .int .i64 v, .int .i64 u] w fun e w' => e = .returned (.agg #[.int .i64 (gc l u).2.1, .int .i64 (gc l u).2.2.2, .int .i64 ((gc l u).2.2.1 - (gc l u).2.1)]) ∧ Below w.heap.size w w' := by
  obtain ⟨hlen, -, blk, off, hadr, hcc⟩ := hA
  obtain rfl := hadr (pos_ne (n := 0) (i := 0) (by omega))
  obtain ⟨c0, c1, c2, c3⟩ := hcc u hv
  have hl := len_bd hR u (by omega)
  obtain ⟨⟨-, ⟨f0, f1⟩, ⟨t0, t1⟩, ft, m0, m1⟩, -⟩ := hR.2.2.2 u hv
  have hkl : (u : Int) < (l.length : Int) := by omega
  have hk0 : (0 : Int) ≤ (u : Int) := by omega
  have hz := block_lt c0
  have hzn : blk ≠ w.heap.size := by omega
  have hzn2 : blk ≠ w.heap.size + 1 := by omega
  clear hcc hadr hR
  generalize lenK L l u = n at *
  generalize (gc l u).1 = d at *
  generalize (gc l u).2.1 = f at *
  generalize (gc l u).2.2.1 = t at *
  generalize (gc l u).2.2.2 = m at *
  obtain ⟨n0, n1⟩ := hl
  go_enter Try.func85, Try.ntmps85
  go_wp2_with fail
  exact bodyPost_ret (v := .agg #[.int .i64 f, .int .i64 m, .int .i64 (t - f)]) (by simp [results, Try.results85, go_sem]) rfl ⟨rfl, by repeat (first | exact Below.refl _ _ | refine Below.setCell ?_ (by simp) _ | refine Below.alloc ?_ (by first | exact Nat.le_refl _ | (simp; done) | (simp; omega)) _)⟩
set_option maxRecDepth 100000 in
theorem moved_any (A B D z : Int) (w : World) (hA : 0 ≤ A ∧ A ≤ 10000000) (hB : 0 ≤ B ∧ B ≤ 10000000) (hD : 0 ≤ D ∧ D ≤ 10000000) (hz : 0 ≤ z ∧ z ≤ 10000000) :
    Calls Try.prog 86 #[.agg #[.int .i64 A, .int .i64 B, .int .i64 D], .int .i64 z] w fun e w' => e = .returned (carR (mv (A, B, D) z)) ∧ Below w.heap.size w w' := by
  obtain ⟨A0, A1⟩ := hA
  obtain ⟨B0, B1⟩ := hB
  obtain ⟨D0, D1⟩ := hD
  obtain ⟨z0, z1⟩ := hz
  unfold mv
  simp only []
  by_cases h1 : z ≤ A
  · rw [if_pos h1]
    unfold carR
    go_enter Try.func86, Try.ntmps86
    go_wp2_with fail
    go_ret2
    exact ⟨rfl, (Below.refl _ _).alloc (Nat.le_refl _) _⟩
  · rw [if_neg h1]
    by_cases h2 : A + B ≤ z
    · rw [if_pos h2]
      unfold carR
      go_enter Try.func86, Try.ntmps86
      go_wp2_with fail
      go_ret2
      exact ⟨rfl, (Below.refl _ _).alloc (Nat.le_refl _) _⟩
    · rw [if_neg h2]
      unfold carR
      go_enter Try.func86, Try.ntmps86
      go_wp2_with fail
      go_ret2
      exact ⟨rfl, (Below.refl _ _).alloc (Nat.le_refl _) _⟩
theorem pos_s (u v j : Nat) : posK u v (j + 1) = if u < v then posK u v j + 1 else posK u v j - 1 := by
  unfold posK; split <;> omega
theorem toward_w (u v : Nat) (hu : u ≤ 40) (hv : v ≤ 40) (j : Nat) (hj : j < dst u v) (W : World) :
    Calls Try.prog 84 #[.int .i64 (posK u v j : Nat), .int .i64 v] W fun e w' => e = .returned (.int .i64 (posK u v (j + 1) : Nat)) ∧ W = w' := by
  have h0 : posK u v j ≤ 80 := by unfold posK; unfold dst at hj; split <;> omega
  refine (toward_any (posK u v j : Nat) v W ⟨by omega, by omega⟩).mono ?_
  rintro e w' ⟨he, hw⟩
  refine ⟨?_, hw⟩
  rw [he]
  unfold posK
  unfold dst at hj
  by_cases h : u < v
  · rw [if_pos h, if_pos h, if_pos (by omega)]; congr 2 <;> omega
  · rw [if_neg h, if_neg h, if_neg (by omega)]; congr 2 <;> omega
def swV (s : Sw) : Value := .agg #[.int .i64 s.1, .int .i64 s.2.1, .int .i64 s.2.2]
theorem step_w (N L : Int) (a : Option Addr) (l : List Chg) (ca : Nat) (u v : Nat) (hr : RoadOk N L l) (hu : u ≤ l.length) (hv : v ≤ l.length) (j : Nat) (hj : j < dst u v) (W : World) (hA : QuadS W a l) :
    Calls Try.prog 85 #[.agg #[.int .i64 N, .int .i64 L, .slice a l.length ca], .int .i64 (posK u v j : Nat), .int .i64 (posK u v (j + 1) : Nat)] W fun e w' => e = .returned (.agg #[.int .i64 (swK l u v j).1, .int .i64 (swK l u v j).2.1, .int .i64 (swK l u v j).2.2]) ∧ Below W.heap.size W w' := by
  unfold dst at hj
  by_cases h : u < v
  · have e1 : posK u v j = u + j := by unfold posK; rw [if_pos h]
    have e2 : posK u v (j + 1) = u + j + 1 := by unfold posK; rw [if_pos h]; omega
    have e3 : swK l u v j = upSw (gc l (u + j)) := by unfold swK; rw [if_pos h]
    rw [e1, e2, e3]
    exact step_up N L a l ca (u + j) (u + j + 1) W hA hr (by omega) (by omega)
  · have e1 : posK u v j = u - j := by unfold posK; rw [if_neg h]
    have e2 : posK u v (j + 1) = u - 1 - j := by unfold posK; rw [if_neg h]; omega
    have e3 : swK l u v j = dnSw (gc l (u - 1 - j)) := by unfold swK; rw [if_neg h]
    rw [e1, e2, e3]
    exact step_dn N L a l ca (u - j) (u - 1 - j) W hA hr (by omega) (by omega)
set_option maxRecDepth 100000 in
set_option maxHeartbeats 2000000 in
theorem refcarry_any (N L : Int) (a : Option Addr) (l : List Chg) (ca : Nat) (c : Int) (u v : Nat) (w : World) (hA : QuadS w a l) (hr : RoadOk N L l) (hu : u ≤ l.length) (hv : v ≤ l.length) (h0 : 0 ≤ c) (h1 : c ≤ lenK L l u) :
    Calls Try.prog 58 #[.agg #[.int .i64 N, .int .i64 L, .slice a l.length ca], .int .i64 c, .int .i64 u, .int .i64 v] w fun e w' => e = .returned (carR (carP l c u v)) ∧ Below w.heap.size w w' := by
  have h40 := hr.2.2.1
  have HTw := Lib.hid (fun j (hj : j < dst u v) W => toward_w u v (by omega) (by omega) j hj W)
  have HSt := Lib.hid (fun j (hj : j < dst u v) W (hW : Below w.heap.size w W) => step_w N L a l ca u v hr hu hv j hj W (hA.below hW))
  have HMv : Hid (∀ j z W, j < dst u v → carK (swK l u v) c j = some z → Calls Try.prog 86 #[.agg #[.int .i64 (swK l u v j).1, .int .i64 (swK l u v j).2.1, .int .i64 (swK l u v j).2.2], .int .i64 z] W fun e w' => e = .returned (carR (carK (swK l u v) c (j + 1))) ∧ Below W.heap.size W w') := Lib.hid fun j z W hj hz => by
    have hs : ∀ i, i < dst u v → swOk (lenK L l (posK u v i)) (lenK L l (posK u v (i + 1))) (swK l u v i) := fun i hi => sw_ok hr hu hv hi
    have hb := carK_bd (len := fun j => lenK L l (posK u v j)) hs h0 (by rw [pos_0]; exact h1) j (by omega) z hz
    have ho := sw_bd (hs j hj)
    have hl := (hs j hj).2.2.2.1
    have := moved_any (swK l u v j).1 (swK l u v j).2.1 (swK l u v j).2.2 z W ho.1 ho.2.1 ho.2.2 ⟨hb.1, Int.le_trans hb.2 hl.2⟩
    have e : carK (swK l u v) c (j + 1) = mv (swK l u v j) z := by rw [carK, hz]; rfl
    rw [e]
    exact this
  have HN : Hid (∀ k, k ≤ dst u v → carK (swK l u v) c k = none → carR (carP l c u v) = .tuple #[.int .i64 0, .bool false]) := Lib.hid fun k hk h => by unfold carP; rw [carK_none h _ hk]; rfl
  have HE : Hid (∀ x, carK (swK l u v) c (dst u v) = some x → carR (carP l c u v) = .tuple #[.int .i64 x, .bool true]) := Lib.hid fun x h => by unfold carP; rw [h]; rfl
  have HI : Hid (carK (swK l u v) c 0 = some c) := Lib.hid rfl
  have HP : Hid (posK u v 0 = u ∧ posK u v (dst u v) = v ∧ (∀ j, j < dst u v → posK u v j ≠ v) ∧ (∀ j, j < dst u v → (((posK u v (j + 1) : Nat) : Int) - v).natAbs < (((posK u v j : Nat) : Int) - v).natAbs)) := Lib.hid ⟨pos_0 u v, pos_end u v, fun j hj => by unfold posK; unfold dst at hj; split <;> omega, fun j hj => by unfold posK; unfold dst at hj; split <;> omega⟩
  generalize carR (carP l c u v) = RR at *
  obtain ⟨K, hK⟩ : ∃ K, carK (swK l u v) c = K := ⟨_, rfl⟩
  rw [hK] at HMv HN HE HI
  obtain ⟨P, hP⟩ : ∃ P, posK u v = P := ⟨_, rfl⟩
  rw [hP] at HTw HSt HP
  obtain ⟨M, hM⟩ : ∃ M, dst u v = M := ⟨_, rfl⟩
  rw [hM] at HTw HSt HMv HN HE HP
  have hM80 : M ≤ 80 := by rw [← hM]; unfold dst; omega
  clear hA hr h0 h1 hK hP hM
  go_enter Try.func58, Try.ntmps58
  go_wp2_with fail
  obtain ⟨wB, hwB⟩ : ∃ wB, w.alloc (.cells #[.int .i64 N, .int .i64 L, .slice a l.length ca] 24) = wB := ⟨_, rfl⟩
  have hB := RdBox.start w N L a l ca 24
  rw [hwB] at hB ⊢
  clear hwB
  have HB := Lib.hid hB
  obtain ⟨hb, p0, p1, p2⟩ := hB
  go_loopw [1, 2] (fun x y wr => ∃ (k : Nat) (z : Int), k ≤ M ∧ x = .int .i64 z ∧ y = .int .i64 (P k : Nat) ∧ RdBox w wr N L a l ca ∧ Hid (K k = some z)) (fun _ y _ => ((intOf y) - v).natAbs)
  case atStart => exact ⟨0, c, Nat.zero_le _, rfl, by rw [HP.out.1], HB.out, HI⟩
  case round =>
    obtain ⟨k, z, hk, rfl, rfl, hB, HZ⟩ := hrel
    obtain ⟨hb, p0, p1, p2⟩ := hB
    have HB := Lib.hid (show RdBox w wr N L a l ca from ⟨hb, p0, p1, p2⟩)
    by_cases hlt : k < M
    · have hne := HP.out.2.2.1 k hlt
      have HMs := Lib.hid (HP.out.2.2.2 k hlt)
      have HT := Lib.hid (HTw.out k hlt)
      have HS := Lib.hid (HSt.out k hlt)
      have HV := Lib.hid (fun W => HMv.out k z W hlt HZ.out)
      have HNk := Lib.hid (HN.out (k + 1) (by omega))
      have hq : (((P k : Nat) : Int) == (v : Int)) = false := by simp; omega
      clear HTw HSt HMv HN HE HI HP HZ hne
      obtain ⟨Q, hQ⟩ : ∃ Q, P (k + 1) = Q := ⟨_, rfl⟩
      obtain ⟨Q0, hQ0⟩ : ∃ Q0, P k = Q0 := ⟨_, rfl⟩
      rw [hQ] at HT HS HMs
      rw [hQ0] at HT HS HMs hq ⊢
      have HQ := Lib.hid hQ
      clear hQ hQ0
      generalize (swK l u v k).1 = s0 at *
      generalize (swK l u v k).2.1 = s1 at *
      generalize (swK l u v k).2.2 = s2 at *
      cases hK1 : K (k + 1) with
      | some z2 =>
        rw [hK1] at HV
        have HZ2 := Lib.hid hK1
        unfold carR at HV
        clear hK1 HNk
        go_wp2_with fail
        refine (HT.out _).mono ?_
        rintro e w1 ⟨rfl, rfl⟩
        go_wp2_with fail
        refine (HS.out _ hb).mono ?_
        rintro e w2 ⟨rfl, hb2⟩
        have HB := Lib.hid (HB.out.on hb2)
        obtain ⟨hb, p0, p1, p2⟩ := HB.out
        clear hb2
        go_wp2_with fail
        refine (HV.out _).mono ?_
        rintro e w3 ⟨rfl, hb3⟩
        have HB := Lib.hid (HB.out.on hb3)
        clear hb3 hb p0 p1 p2
        go_wp2_with fail
        go_roundw
        case rel => exact ⟨k + 1, z2, by omega, rfl, by rw [HQ.out], HB.out, HZ2⟩
        case measure => have := HMs.out; simp [intOf]; omega
      | none =>
        rw [hK1] at HV
        have HR := Lib.hid (HNk.out hK1)
        unfold carR at HV
        clear hK1 HNk
        go_wp2_with fail
        refine (HT.out _).mono ?_
        rintro e w1 ⟨rfl, rfl⟩
        go_wp2_with fail
        refine (HS.out _ hb).mono ?_
        rintro e w2 ⟨rfl, hb2⟩
        have HB := Lib.hid (HB.out.on hb2)
        obtain ⟨hb, p0, p1, p2⟩ := HB.out
        clear hb2
        go_wp2_with fail
        refine (HV.out _).mono ?_
        rintro e w3 ⟨rfl, hb3⟩
        have HB := Lib.hid (HB.out.on hb3)
        have hb := HB.out.1
        clear hb3 p0 p1 p2
        go_wp2_with fail
        go_ret2
        exact ⟨by rw [HR.out]; rfl, hb⟩
    · obtain rfl : k = M := by omega
      have HR := Lib.hid (HE.out z HZ.out)
      have hPk := HP.out.2.1
      rw [hPk]
      clear HTw HSt HMv HN HE HI HP HZ hPk
      go_wp2_with fail
      go_ret2
      exact ⟨by rw [HR.out]; rfl, hb⟩

theorem ver_at (N L : Int) (a : Option Addr) (l : List Chg) (ca : Nat) (u v : Nat) (w : World) (hA : QuadS w a l) (he : errL N L l [(u : Int), (v : Int)] = 0) (hk : u ≤ l.length) : ∀ W, Below w.heap.size w W → Calls Try.prog 49 #[.agg #[.int .i64 N, .int .i64 L, .slice a l.length ca], .int .i64 u, .int .i64 v] W fun e w' => ∃ b c, e = .returned (.tuple #[.slice b (l.length + 1) c, .int .i64 0]) ∧ (∃ blk off, b = some ⟨blk, off, none⟩ ∧ w'.cell? ⟨blk, off + u, none⟩ = some (.int .i64 (lenK L l u))) ∧ Below W.heap.size W w' := fun W hW => (versions_any N L a l ca u v W (hA.below hW)).mono fun e w' h => by
  rcases h with ⟨h, b, c, e1, hI, hb⟩ | ⟨h, _⟩
  · obtain ⟨_, blk, off, h1, h2⟩ := hI
    have hll := lens_len L l l.length
    have h3 := h2 u (by omega)
    rw [lens_at L l hk] at h3
    exact ⟨b, c, e1, ⟨blk, off, h1 (pos_ne (n := 0) (i := 0) (by omega)), h3⟩, hb⟩
  · exact absurd he h
theorem ver_bad (N L : Int) (a : Option Addr) (l : List Chg) (ca : Nat) (u v : Int) (w : World) (hA : QuadS w a l) (he : errL N L l [u, v] ≠ 0) : ∀ W, Below w.heap.size w W → Calls Try.prog 49 #[.agg #[.int .i64 N, .int .i64 L, .slice a l.length ca], .int .i64 u, .int .i64 v] W fun e w' => e = .returned (.tuple #[.slice none 0 0, .int .i64 (errL N L l [u, v])]) ∧ Below W.heap.size W w' := fun W hW => (versions_any N L a l ca u v W (hA.below hW)).mono fun e w' h => by
  rcases h with ⟨h, _⟩ | ⟨_, h1, h2⟩
  · exact absurd h he
  · exact ⟨h1, h2⟩
set_option maxRecDepth 100000 in
set_option maxHeartbeats 1000000 in
theorem refCarry_any (N L : Int) (a : Option Addr) (l : List Chg) (ca : Nat) (z u v : Int) (w : World) (hA : QuadS w a l) :
    Calls Try.prog 24 #[.agg #[.int .i64 N, .int .i64 L, .slice a l.length ca], .int .i64 z, .int .i64 u, .int .i64 v] w fun e w' => e = .returned (.tuple #[.int .i64 (carV N L l z u v), .int .i64 (carE N L l z u v)]) ∧ Below w.heap.size w w' := by
  have hlen := hA.1
  rcases errL_cases N L l [u, v] with ⟨hr, hw, he⟩ | he | he
  · obtain ⟨⟨u0, u1⟩, v0, v1⟩ := ver_ok (N := N) (L := L) hw
    obtain ⟨x, rfl⟩ : ∃ n : Nat, u = n := ⟨u.toNat, by omega⟩
    obtain ⟨y, rfl⟩ : ∃ n : Nat, v = n := ⟨v.toNat, by omega⟩
    have HV := Lib.hid (ver_at N L a l ca x y w hA he (by omega))
    have hx1 : (x : Int) < (l.length : Int) + 1 := by omega
    have hx2 : (0 : Int) ≤ (x : Int) := by omega
    by_cases hc : 0 ≤ z ∧ z ≤ lenK L l x
    · have B1 := Lib.hid (btw_t hc.1 hc.2)
      have HC := Lib.hid (fun W (hW : Below w.heap.size w W) => refcarry_any N L a l ca z x y W (hA.below hW) hr (by omega) (by omega) hc.1 hc.2)
      cases hp : carP l z x y with
      | some q =>
        have e1 : carE N L l z x y = 0 := by unfold carE; rw [if_pos he, Int.toNat_natCast, Int.toNat_natCast, B1.out, if_pos rfl, hp]
        have e2 : carV N L l z x y = q := by unfold carV; rw [if_pos e1, Int.toNat_natCast, Int.toNat_natCast, hp]; rfl
        rw [e1, e2]
        rw [hp] at HC
        unfold carR at HC
        clear hA hr hw he hp e1 e2 hc
        generalize lenK L l x = n at *
        go_enter Try.func24, Try.ntmps24
        go_wp2_with fail
        obtain ⟨wB, hwB⟩ : ∃ wB, w.alloc (.cells #[.int .i64 N, .int .i64 L, .slice a l.length ca] 24) = wB := ⟨_, rfl⟩
        have hB := RdBox.start w N L a l ca 24
        rw [hwB] at hB ⊢
        clear hwB
        have HB := Lib.hid hB
        obtain ⟨hb, p0, p1, p2⟩ := hB
        refine (HV.out _ hb).mono ?_
        rintro e w1 ⟨b, c, rfl, ⟨blk, off, rfl, hcl⟩, hb1⟩
        have HB := Lib.hid (HB.out.on hb1)
        obtain ⟨hb, p0, p1, p2⟩ := HB.out
        clear hb1
        go_wp2_with (go_at_call 53; refine (from_any _ _ _ _).mono ?_; rintro e w' ⟨rfl, rfl⟩; rw [B1.out])
        refine (HC.out _ hb).mono ?_
        rintro e w2 ⟨rfl, hb2⟩
        have HB := Lib.hid (HB.out.on hb2)
        obtain ⟨hb, p0, p1, p2⟩ := HB.out
        clear hb2
        go_wp2_with fail
        go_ret2
        exact ⟨rfl, hb⟩

      | none =>
        have e1 : carE N L l z x y = 62 := by unfold carE; rw [if_pos he, Int.toNat_natCast, Int.toNat_natCast, B1.out, if_pos rfl, hp]
        have e2 : carV N L l z x y = 0 := by unfold carV; rw [e1]; rfl
        rw [e1, e2]
        rw [hp] at HC
        unfold carR at HC
        clear hA hr hw he hp e1 e2 hc
        generalize lenK L l x = n at *
        go_enter Try.func24, Try.ntmps24
        go_wp2_with fail
        obtain ⟨wB, hwB⟩ : ∃ wB, w.alloc (.cells #[.int .i64 N, .int .i64 L, .slice a l.length ca] 24) = wB := ⟨_, rfl⟩
        have hB := RdBox.start w N L a l ca 24
        rw [hwB] at hB ⊢
        clear hwB
        have HB := Lib.hid hB
        obtain ⟨hb, p0, p1, p2⟩ := hB
        refine (HV.out _ hb).mono ?_
        rintro e w1 ⟨b, c, rfl, ⟨blk, off, rfl, hcl⟩, hb1⟩
        have HB := Lib.hid (HB.out.on hb1)
        obtain ⟨hb, p0, p1, p2⟩ := HB.out
        clear hb1
        go_wp2_with (go_at_call 53; refine (from_any _ _ _ _).mono ?_; rintro e w' ⟨rfl, rfl⟩; rw [B1.out])
        refine (HC.out _ hb).mono ?_
        rintro e w2 ⟨rfl, hb2⟩
        have HB := Lib.hid (HB.out.on hb2)
        obtain ⟨hb, p0, p1, p2⟩ := HB.out
        clear hb2
        go_wp2_with fail
        go_ret2
        exact ⟨rfl, hb⟩

    · have B1 := Lib.hid (btw_f hc)
      have e1 : carE N L l z x y = 2 := by unfold carE; rw [if_pos he, Int.toNat_natCast, B1.out]; rfl
      have e2 : carV N L l z x y = 0 := by unfold carV; rw [e1]; rfl
      rw [e1, e2]
      clear hA hr hw he e1 e2 hc
      generalize lenK L l x = n at *
      go_enter Try.func24, Try.ntmps24
      go_wp2_with fail
      obtain ⟨wB, hwB⟩ : ∃ wB, w.alloc (.cells #[.int .i64 N, .int .i64 L, .slice a l.length ca] 24) = wB := ⟨_, rfl⟩
      have hB := RdBox.start w N L a l ca 24
      rw [hwB] at hB ⊢
      clear hwB
      have HB := Lib.hid hB
      obtain ⟨hb, p0, p1, p2⟩ := hB
      refine (HV.out _ hb).mono ?_
      rintro e w1 ⟨b, c, rfl, ⟨blk, off, rfl, hcl⟩, hb1⟩
      have HB := Lib.hid (HB.out.on hb1)
      obtain ⟨hb, p0, p1, p2⟩ := HB.out
      clear hb1
      go_wp2_with (go_at_call 53; refine (from_any _ _ _ _).mono ?_; rintro e w' ⟨rfl, rfl⟩; rw [B1.out])
      go_ret2
      exact ⟨rfl, hb⟩

  · have e1 : carE N L l z u v = 60 := by unfold carE; rw [if_neg (by rw [he]; decide), he]
    have e2 : carV N L l z u v = 0 := by unfold carV; rw [e1]; rfl
    have HV := Lib.hid (ver_bad N L a l ca u v w hA (by rw [he]; decide))
    rw [he] at HV
    rw [e1, e2]
    clear hA he e1 e2
    go_enter Try.func24, Try.ntmps24
    go_wp2_with fail
    obtain ⟨wB, hwB⟩ : ∃ wB, w.alloc (.cells #[.int .i64 N, .int .i64 L, .slice a l.length ca] 24) = wB := ⟨_, rfl⟩
    have hB := RdBox.start w N L a l ca 24
    rw [hwB] at hB ⊢
    clear hwB
    have HB := Lib.hid hB
    obtain ⟨hb, p0, p1, p2⟩ := hB
    refine (HV.out _ hb).mono ?_
    rintro e w1 ⟨rfl, hb1⟩
    have HB := Lib.hid (HB.out.on hb1)
    obtain ⟨hb, p0, p1, p2⟩ := HB.out
    clear hb1
    go_wp2_with fail
    go_ret2
    exact ⟨rfl, hb⟩

  · have e1 : carE N L l z u v = 61 := by unfold carE; rw [if_neg (by rw [he]; decide), he]
    have e2 : carV N L l z u v = 0 := by unfold carV; rw [e1]; rfl
    have HV := Lib.hid (ver_bad N L a l ca u v w hA (by rw [he]; decide))
    rw [he] at HV
    rw [e1, e2]
    clear hA he e1 e2
    go_enter Try.func24, Try.ntmps24
    go_wp2_with fail
    obtain ⟨wB, hwB⟩ : ∃ wB, w.alloc (.cells #[.int .i64 N, .int .i64 L, .slice a l.length ca] 24) = wB := ⟨_, rfl⟩
    have hB := RdBox.start w N L a l ca 24
    rw [hwB] at hB ⊢
    clear hwB
    have HB := Lib.hid hB
    obtain ⟨hb, p0, p1, p2⟩ := hB
    refine (HV.out _ hb).mono ?_
    rintro e w1 ⟨rfl, hb1⟩
    have HB := Lib.hid (HB.out.on hb1)
    obtain ⟨hb, p0, p1, p2⟩ := HB.out
    clear hb1
    go_wp2_with fail
    go_ret2
    exact ⟨rfl, hb⟩

end Go.Proofs.Ytacmeadmmjehmaa
