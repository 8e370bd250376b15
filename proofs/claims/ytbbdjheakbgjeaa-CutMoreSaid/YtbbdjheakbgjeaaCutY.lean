/-
  The walk of few. By an AI agent.
-/
import Derived.Test.YtbbdjheakbgjeaaCutX
namespace Go.Proofs.Ytbbdjheakbgjeaa
set_option linter.unusedVariables false
set_option linter.unusedSimpArgs false
open Go.RowKit
theorem szL_mono (l : List (Int × Int)) : ∀ n k, k ≤ n → (szL 0 l k).length ≤ (szL 0 l n).length
  | 0, k, h => by rw [show k = 0 from by omega]; exact Nat.le_refl _
  | n + 1, k, h => by
    by_cases e : k = n + 1
    · subst e; exact Nat.le_refl _
    · have ih := szL_mono l n k (by omega)
      rw [show szL 0 l (n + 1) = szL 0 l n ++ List.replicate (gp l n).2.toNat ((gp l n).1 + 0) from rfl, List.length_append]
      omega

set_option maxRecDepth 100000 in
set_option maxHeartbeats 2000000 in
theorem few_any (L K : Int) (aa : Option Addr) (l : List (Int × Int)) (ca : Nat) (N : Int) (w : World) (hA : PairsS w aa l) (hok : CutOk L K l) (N0 : 0 ≤ N) (N1 : N ≤ 100) :
    Calls Try.prog 20 #[.agg #[.int .i64 L, .int .i64 K, .slice aa l.length ca], .int .i64 N] w fun e w' => e = .returned (.bool (decide (((szL 0 l l.length).length : Int) ≤ N))) ∧ Below w.heap.size w w' := by
  have HLen : Hid (∀ k, k ≤ l.length → (szL 0 l k).length ≤ 50 * k) := Lib.hid fun k hk => by have := szL_len hok k hk; rw [szL_lenK] at this; exact this
  obtain ⟨⟨L0, L1⟩, ⟨K0, K1⟩, l8, hask⟩ := hok
  have HCnt : Hid (∀ k, k < l.length → 0 ≤ (gp l k).2 ∧ (gp l k).2 ≤ 50) := Lib.hid fun k hk => (hask k hk).2
  have HStep : Hid (∀ k, (szL 0 l (k + 1)).length = (szL 0 l k).length + (gp l k).2.toNat) := Lib.hid fun k => by rw [szL, List.length_append, List.length_replicate]
  have HMono := Lib.hid fun k (hk : k ≤ l.length) => szL_mono l l.length k hk
  obtain ⟨hlen, hbd, blk, off, hadr, hc⟩ := hA
  have HC := Lib.hid hc
  have HL : Hid (0 < l.length → aa = some ⟨blk, off, none⟩) := Lib.hid fun h => hadr (pos_ne (n := 0) h)
  have hS := InBox.start w L K (.slice aa l.length ca) 54
  generalize (fun k => (szL 0 l k).length) = F at *
  obtain ⟨F, hF⟩ : ∃ F : Nat → Nat, (fun k => (szL 0 l k).length) = F := ⟨_, rfl⟩
  have hFk : ∀ k, (szL 0 l k).length = F k := fun k => by rw [← hF]
  have hF0 : F 0 = 0 := by rw [← hFk]; rfl
  rw [hFk]
  simp only [hFk] at HLen HStep HMono
  clear hF hFk hc hadr hbd hask hlen
  go_enter Try.func20, Try.ntmps20
  go_wp2_with fail
  obtain ⟨wB, hwB⟩ : ∃ wB, w.alloc (.cells #[.int .i64 L, .int .i64 K, .slice aa l.length ca] 54) = wB := ⟨_, rfl⟩
  rw [hwB] at hS ⊢
  clear hwB
  go_loopw [5, 6] (fun s i wr => ∃ k : Nat, k ≤ l.length ∧ i = .int .i64 k ∧ s = .int .i64 (F k : Int) ∧ InBox w wr L K (.slice aa l.length ca)) (fun _ i _ => l.length - (intOf i).toNat)
  case atStart => exact ⟨0, Nat.zero_le _, rfl, by rw [hF0]; rfl, hS⟩
  case round =>
    obtain ⟨k, hk, rfl, rfl, hB⟩ := hrel
    obtain ⟨hb, p0, p1, p2⟩ := hB
    have hFb : F k ≤ 400 := by have := HLen.out k hk; omega
    by_cases hlt : k < l.length
    · obtain rfl := HL.out (by omega)
      have c1 := cell_below (HC.out k hlt).2 hb
      obtain ⟨y0, y1⟩ := HCnt.out k hlt
      have HSk := Lib.hid (HStep.out k)
      have HMk := Lib.hid (HMono.out (k + 1) hlt)
      generalize (gp l k).2 = y at *
      by_cases hy : N < y
      · have hR : decide ((F l.length : Int) ≤ N) = false := by
          have := HSk.out
          have := HMk.out
          simp
          omega
        go_wp2_with fail
        go_ret
        exact ⟨rfl, hb⟩
      · rcases (show y = 0 ∨ 0 < y by omega) with hy0 | hy0
        · subst hy0
          have e : F (k + 1) = F k := by have := HSk.out; simp at this; exact this
          go_wp2_with fail
          go_roundw
          case rel => exact ⟨k + 1, by omega, by go_num, by rw [e], ⟨hb, p0, p1, p2⟩⟩
          case measure => simp [intOf]; omega
        · have e : (F (k + 1) : Int) = F k + y := by have := HSk.out; omega
          go_wp2_with fail
          go_roundw
          case rel => exact ⟨k + 1, by omega, by go_num, by rw [e], ⟨hb, p0, p1, p2⟩⟩
          case measure => simp [intOf]; omega
    · obtain rfl : k = l.length := by omega
      go_wp2_with fail
      go_ret
      exact ⟨rfl, hb⟩
end Go.Proofs.Ytbbdjheakbgjeaa
