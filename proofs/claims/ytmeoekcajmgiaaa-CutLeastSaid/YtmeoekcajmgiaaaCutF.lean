/-
  The walks of Dearest and Bound of package cut. By an AI agent.
-/
import Derived.Test.YtmeoekcajmgiaaaCutE
namespace Go.Proofs.Ytmeoekcajmgiaaa
set_option linter.unusedVariables false
set_option linter.unusedSimpArgs false
open Go.RowKit

/-- The worth of the pieces of the first k asks. -/
def sumW (l : List (Int × Int)) (q : List Int) : Nat → Int
  | 0 => 0
  | k + 1 => sumW l q k + (gp l k).2 * gi q k
theorem sumW_bd {l : List (Int × Int)} {q : List Int} : ∀ k, (∀ j, j < k → 0 ≤ (gp l j).2 ∧ (gp l j).2 ≤ 50) → (∀ j, j < k → 0 ≤ gi q j ∧ gi q j ≤ 1000000) → 0 ≤ sumW l q k ∧ sumW l q k ≤ 50000000 * k
  | 0, _, _ => by simp [sumW]
  | k + 1, h, g => by
    have ih := sumW_bd k (fun j hj => h j (by omega)) (fun j hj => g j (by omega))
    have hk := h k (by omega)
    have gk := g k (by omega)
    have e1 := Int.mul_nonneg hk.1 gk.1
    have e2 : (gp l k).2 * gi q k ≤ 50 * gi q k := Int.mul_le_mul_of_nonneg_right hk.2 gk.1
    rw [sumW]
    omega
def bstR (L K : Int) (l : List (Int × Int)) (q : List Int) : Int := bstN l q K l.length (L + K).toNat
noncomputable def drV (L K : Int) (l : List (Int × Int)) (q : List Int) : Int := if prcE L K l q = 0 then bstR L K l q else 0
noncomputable def bdV (L K : Int) (l : List (Int × Int)) (q : List Int) : Int := if prcE L K l q = 0 then (if bstR L K l q = 0 then 0 else (sumW l q l.length + bstR L K l q - 1) / bstR L K l q) else 0
theorem prcE_ok {L K : Int} {l : List (Int × Int)} {q : List Int} (h : prcE L K l q = 0) : CutOk L K l ∧ PrcOk l q := by
  unfold prcE at h
  by_cases h1 : cutB L K l = true
  · rw [if_pos h1] at h
    by_cases h2 : PrcOk l q
    · exact ⟨cutB_iff.1 h1, h2⟩
    · rw [if_neg h2] at h; omega
  · rw [if_neg h1] at h; omega
theorem bstR_bd {L K : Int} {l : List (Int × Int)} {q : List Int} (hV : CutOk L K l) (hP : PrcOk l q) : 0 ≤ bstR L K l q ∧ bstR L K l q ≤ 400000000 := by
  obtain ⟨_, _, h8, hok⟩ := hV
  obtain ⟨hl, hpr⟩ := hP
  refine ⟨bstN_nonneg _ _ _ _ _, ?_⟩
  have := bstN_bd l q K l.length (fun j hj => ⟨(hok j hj).2.2, (hpr j (by omega)).1, (hpr j (by omega)).2⟩) (L + K).toNat
  unfold bstR
  omega

set_option maxRecDepth 100000 in
set_option maxHeartbeats 2000000 in
theorem Bound_any (L K : Int) (aa : Option Addr) (l : List (Int × Int)) (ca : Nat) (ap : Option Addr) (q : List Int) (cq : Nat) (w : World) (hA : PairsS w aa l) (hQ : IntsS w ap q) :
    Calls Try.prog 13 #[.agg #[.int .i64 L, .int .i64 K, .slice aa l.length ca], .slice ap q.length cq] w fun e w' => e = .returned (.tuple #[.int .i64 (bdV L K l q), .int .i64 (prcE L K l q)]) ∧ Below w.heap.size w w' := by
  have HP := Lib.hid (fun W (hW : Below w.heap.size w W) => pricesError_any L K aa l ca ap q cq W (hA.below hW) (hQ.below hW))
  have HD : Hid (prcE L K l q = 0 → ∀ W, Below w.heap.size w W → Calls Try.prog 29 #[.agg #[.int .i64 L, .int .i64 K, .slice aa l.length ca], .slice ap q.length cq] W fun e w' => e = .returned (.int .i64 (bstR L K l q)) ∧ Below W.heap.size W w') := Lib.hid fun h W hW => dearest_any L K aa l ca ap q cq W (hA.below hW) (hQ.below hW) (prcE_ok h).1 (prcE_ok h).2
  have hS := InBox.start w L K (.slice aa l.length ca) 24
  by_cases hp : prcE L K l q = 0
  · obtain ⟨hV, hO⟩ := prcE_ok hp
    obtain ⟨d0, d1⟩ := bstR_bd hV hO
    obtain ⟨_, _, h8, hok⟩ := hV
    obtain ⟨hl, hpr⟩ := hO
    have HD := Lib.hid (HD.out hp)
    by_cases hz : bstR L K l q = 0
    · have e1 : bdV L K l q = 0 := by unfold bdV; rw [if_pos hp, if_pos hz]
      rw [e1]
      rw [hp] at HP ⊢
      rw [hz] at HD
      clear hA hQ e1 hp hz d0 d1 hl hpr hok
      go_enter Try.func13, Try.ntmps13
      go_wp2_with fail
      refine (HP.out _ hS.1).mono ?_
      rintro e w1 ⟨rfl, hb1⟩
      obtain ⟨hb, p0, p1, p2⟩ := hS.on hb1
      go_wp2_with fail
      refine (HD.out _ hb).mono ?_
      rintro e w2 ⟨rfl, hb2⟩
      go_wp2_with fail
      go_ret2
      exact ⟨rfl, hb.trans (hb2.mono hb.size)⟩
    · have e1 : bdV L K l q = (sumW l q l.length + bstR L K l q - 1) / bstR L K l q := by unfold bdV; rw [if_pos hp, if_neg hz]
      rw [e1]
      rw [hp] at HP ⊢
      have HSB : Hid (∀ k, k ≤ l.length → 0 ≤ sumW l q k ∧ sumW l q k ≤ 50000000 * k) := Lib.hid fun k hk => sumW_bd k (fun j hj => (hok j (by omega)).2) (fun j hj => hpr j (by omega))
      have HPR : Hid (∀ i, i < l.length → 0 ≤ gi q i ∧ gi q i ≤ 1000000) := Lib.hid fun i hi => hpr i (by omega)
      have HCN : Hid (∀ i, i < l.length → 0 ≤ (gp l i).2 ∧ (gp l i).2 ≤ 50) := Lib.hid fun i hi => (hok i hi).2
      obtain ⟨hlenA, -, blk, off, hadr, hc⟩ := hA
      obtain ⟨hlen, -, bq, oq, hadq, hq⟩ := hQ
      have HC := Lib.hid hc
      have HQ := Lib.hid hq
      have HL : Hid (0 < l.length → aa = some ⟨blk, off, none⟩) := Lib.hid fun h => hadr (pos_ne (n := 0) h)
      have HLQ : Hid (0 < l.length → ap = some ⟨bq, oq, none⟩) := Lib.hid fun h => hadq (pos_ne (n := 0) (i := 0) (by omega))
      rw [hl] at HQ HP HD ⊢
      clear hc hadr hq hadq hok hpr hl hlen e1 hp
      have HFin : Hid (∀ s d, s = sumW l q l.length → d = bstR L K l q → (s + d - 1) / d = (sumW l q l.length + bstR L K l q - 1) / bstR L K l q) := Lib.hid fun s d h1 h2 => by rw [h1, h2]
      obtain ⟨dd, hdd⟩ : ∃ dd, bstR L K l q = dd := ⟨_, rfl⟩
      have HFd := Lib.hid (fun s h => HFin.out s dd h hdd.symm)
      rw [hdd] at HD d0 d1 hz
      have HDD := Lib.hid hdd
      clear hdd HFin
      go_enter Try.func13, Try.ntmps13
      go_wp2_with fail
      refine (HP.out _ hS.1).mono ?_
      rintro e w1 ⟨rfl, hb1⟩
      have HS1 := Lib.hid (hS.on hb1)
      obtain ⟨hb, p0, p1, p2⟩ := HS1.out
      go_wp2_with fail
      refine (HD.out _ hb).mono ?_
      rintro e w2 ⟨rfl, hb2⟩
      have HS2 := Lib.hid (HS1.out.on hb2)
      have p2 := HS2.out.2.2.2
      clear p0 p1 hb
      go_wp2_with fail
      go_loopw [8, 25] (fun s i wr => ∃ k : Nat, k ≤ l.length ∧ i = .int .i64 k ∧ s = .int .i64 (sumW l q k) ∧ Below w2.heap.size w2 wr) (fun _ i _ => l.length - (intOf i).toNat)
      case atStart => exact ⟨0, Nat.zero_le _, rfl, rfl, Below.refl _ _⟩
      case round =>
        obtain ⟨k, hk, rfl, rfl, hbr⟩ := hrel
        obtain ⟨hb, p0, p1, p2⟩ := HS2.out.on hbr
        obtain ⟨s0, s1⟩ := HSB.out k hk
        by_cases hlt : k < l.length
        · obtain rfl := HL.out (by omega)
          obtain rfl := HLQ.out (by omega)
          have c0 := cell_below (HC.out k hlt).1 hb
          have c1 := cell_below (HC.out k hlt).2 hb
          have cP := cell_below (HQ.out k hlt) hb
          obtain ⟨y0, y1⟩ := HCN.out k hlt
          obtain ⟨r0, r1⟩ := HPR.out k hlt
          have e1 := Int.mul_nonneg y0 r0
          have e2 : (gp l k).2 * gi q k ≤ 50 * gi q k := Int.mul_le_mul_of_nonneg_right y1 r0
          have HU : Hid (sumW l q (k + 1) = sumW l q k + (gp l k).2 * gi q k) := Lib.hid rfl
          have g6 : (k : Int) < (l.length : Int) := by omega
          clear HC HQ HL HLQ HSB HPR HCN
          generalize sumW l q k = s at *
          generalize (gp l k).1 = x at *
          generalize (gp l k).2 = y at *
          generalize gi q k = pr at *
          obtain ⟨z, hz⟩ : ∃ z, y * pr = z := ⟨_, rfl⟩
          rw [hz] at e1 e2 HU
          have wz : IntKind.i64.wrap z = z := IntWalk.i64_in _ (by omega)
          have wsz : IntKind.i64.wrap (s + z) = s + z := IntWalk.i64_in _ (by omega)
          go_wp2_with fail
          obtain ⟨wa, hwa⟩ : ∃ wa, wr.alloc (.cells #[.int .i64 x, .int .i64 y] 42) = wa := ⟨_, rfl⟩
          have hba : Below wr.heap.size wr wa := by rw [← hwa]; exact (Below.refl _ _).alloc (Nat.le_refl _) _
          have a1 : wa.cell? ⟨wr.heap.size, 1, none⟩ = some (.int .i64 y) := by rw [← hwa]; simp [go_sem]
          have cP := cell_below cP hba
          have hbra : Below w2.heap.size w2 wa := hbr.trans (hba.mono hbr.size)
          rw [hwa]
          clear hwa hba
          go_quiet (fail)
          go_wp2_with fail
          go_roundw
          case rel => exact ⟨k + 1, by omega, by go_num, by rw [HU.out], below_drewN hbra _⟩
          case measure => simp [intOf]; omega
        · obtain rfl : k = l.length := by omega
          obtain ⟨s, hs⟩ : ∃ s, sumW l q l.length = s := ⟨_, rfl⟩
          have HFe := Lib.hid (HFd.out s hs.symm)
          rw [hs] at s0 s1 ⊢
          clear hs
          have w1 : IntKind.i64.wrap (s + dd) = s + dd := IntWalk.i64_in _ (by omega)
          have w2 : IntKind.i64.wrap (s + dd - 1) = s + dd - 1 := IntWalk.i64_in _ (by omega)
          have tq : (s + dd - 1).tdiv dd = (s + dd - 1) / dd := Int.tdiv_eq_ediv_of_nonneg (by omega)
          have q0 : 0 ≤ (s + dd - 1) / dd := Int.ediv_nonneg (by omega) (by omega)
          have q1 : (s + dd - 1) / dd ≤ s + dd - 1 := Int.ediv_le_self _ (by omega)
          have w3 : IntKind.i64.wrap ((s + dd - 1) / dd) = (s + dd - 1) / dd := IntWalk.i64_in _ (by omega)
          go_wp2_with fail
          go_ret2
          rw [← HFe.out]
          exact ⟨rfl, hb⟩
  · have e1 : bdV L K l q = 0 := by unfold bdV; rw [if_neg hp]
    rw [e1]
    clear hA hQ e1 HD
    generalize prcE L K l q = E at *
    go_enter Try.func13, Try.ntmps13
    go_wp2_with fail
    refine (HP.out _ hS.1).mono ?_
    rintro e w1 ⟨rfl, hb1⟩
    obtain ⟨hb, p0, p1, p2⟩ := hS.on hb1
    go_wp2_with fail
    go_ret2
    exact ⟨rfl, hb⟩
end Go.Proofs.Ytmeoekcajmgiaaa
