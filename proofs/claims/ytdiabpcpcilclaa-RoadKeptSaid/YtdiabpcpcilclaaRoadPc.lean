/-
  The reference's toward, step, moved, carry and Carry. By an AI agent.
-/
import Derived.Test.YtdiabpcpcilclaaRoadPm
namespace Go.Proofs.Ytdiabpcpcilclaa
set_option linter.unusedVariables false
set_option linter.unusedSimpArgs false
open Go.RowKit

theorem toward_any (v u : Int) (w : World) (h0 : 0 ≤ v ∧ v ≤ 100) :
    Calls Try.prog 57 #[.int .i64 v, .int .i64 u] w fun e w' => e = .returned (.int .i64 (if v < u then v + 1 else v - 1)) ∧ w = w' := by
  obtain ⟨v0, v1⟩ := h0
  by_cases h : v < u
  · rw [if_pos h]
    go_enter Try.func57, Try.ntmps57
    go_wp2
    go_ret
    exact ⟨rfl, rfl⟩
  · rw [if_neg h]
    go_enter Try.func57, Try.ntmps57
    go_wp2
    go_ret
    exact ⟨rfl, rfl⟩
set_option maxRecDepth 100000 in
set_option maxHeartbeats 1000000 in
theorem step_up (N L : Int) (a : Option Addr) (l : List Chg) (ca : Nat) (v u : Nat) (w : World) (hA : QuadS w a l) (hR : RoadOk N L l) (hv : v < l.length) (hc : (v : Int) < (u : Int)) :
    Calls Try.prog 58 #[.agg #[.int .i64 N, .int .i64 L, .slice a l.length ca], .int .i64 v, .int .i64 u] w fun e w' => e = .returned (.agg #[.int .i64 (gc l v).2.1, .int .i64 ((gc l v).2.2.1 - (gc l v).2.1), .int .i64 (gc l v).2.2.2]) ∧ Below w.heap.size w w' := by
  obtain ⟨hlen, -, blk, off, hadr, hcc⟩ := hA
  obtain rfl := hadr (pos_ne (n := 0) (i := 0) (by omega))
  obtain ⟨c0, c1, c2, c3⟩ := hcc v hv
  have hl := len_bd hR v (by omega)
  obtain ⟨⟨-, ⟨f0, f1⟩, ⟨t0, t1⟩, ft, m0, m1⟩, -⟩ := hR.2.2.2 v hv
  have hkl : (v : Int) < (l.length : Int) := by omega
  have hk0 : (0 : Int) ≤ (v : Int) := by omega
  have hz := block_lt c0
  have hzn : blk ≠ w.heap.size := by omega
  have hzn2 : blk ≠ w.heap.size + 1 := by omega
  clear hcc hadr hR
  generalize lenK L l v = n at *
  generalize (gc l v).1 = d at *
  generalize (gc l v).2.1 = f at *
  generalize (gc l v).2.2.1 = t at *
  generalize (gc l v).2.2.2 = m at *
  obtain ⟨n0, n1⟩ := hl
  go_enter Try.func58, Try.ntmps58
  go_wp2_with fail
  exact bodyPost_ret (v := .agg #[.int .i64 f, .int .i64 (t - f), .int .i64 m]) (by simp [results, Try.results58, go_sem]) rfl ⟨rfl, by repeat (first | exact Below.refl _ _ | refine Below.setCell ?_ (by simp) _ | refine Below.alloc ?_ (by first | exact Nat.le_refl _ | (simp; done) | (simp; omega)) _)⟩
set_option maxRecDepth 100000 in
set_option maxHeartbeats 1000000 in
theorem step_dn (N L : Int) (a : Option Addr) (l : List Chg) (ca : Nat) (v u : Nat) (w : World) (hA : QuadS w a l) (hR : RoadOk N L l) (hv : u < l.length) (hc : ¬ (v : Int) < (u : Int)) :
    Calls Try.prog 58 #[.agg #[.int .i64 N, .int .i64 L, .slice a l.length ca], .int .i64 v, .int .i64 u] w fun e w' => e = .returned (.agg #[.int .i64 (gc l u).2.1, .int .i64 (gc l u).2.2.2, .int .i64 ((gc l u).2.2.1 - (gc l u).2.1)]) ∧ Below w.heap.size w w' := by
  obtain ⟨hlen, -, blk, off, hadr, hcc⟩ := hA
  obtain rfl := hadr (pos_ne (n := 0) (i := 0) (by omega))
  obtain ⟨c0, c1, c2, c3⟩ := hcc u hv
  have hl := len_bd hR u (by omega)
  obtain ⟨⟨-, ⟨f0, f1⟩, ⟨t0, t1⟩, ft, m0, m1⟩, -⟩ := hR.2.2.2 u hv
  have hkl : (u : Int) < (l.length : Int) := by omega
  have hk0 : (0 : Int) ≤ (u : Int) := by omega
  have hz := block_lt c0
  have hzn : blk ≠ w.heap.size := by omega
  have hzn2 : blk ≠ w.heap.size + 1 := by omega
  clear hcc hadr hR
  generalize lenK L l u = n at *
  generalize (gc l u).1 = d at *
  generalize (gc l u).2.1 = f at *
  generalize (gc l u).2.2.1 = t at *
  generalize (gc l u).2.2.2 = m at *
  obtain ⟨n0, n1⟩ := hl
  go_enter Try.func58, Try.ntmps58
  go_wp2_with fail
  exact bodyPost_ret (v := .agg #[.int .i64 f, .int .i64 m, .int .i64 (t - f)]) (by simp [results, Try.results58, go_sem]) rfl ⟨rfl, by repeat (first | exact Below.refl _ _ | refine Below.setCell ?_ (by simp) _ | refine Below.alloc ?_ (by first | exact Nat.le_refl _ | (simp; done) | (simp; omega)) _)⟩
theorem pos_s (u v j : Nat) : posK u v (j + 1) = if u < v then posK u v j + 1 else posK u v j - 1 := by
  unfold posK; split <;> omega
theorem toward_w (u v : Nat) (hu : u ≤ 40) (hv : v ≤ 40) (j : Nat) (hj : j < dst u v) (W : World) :
    Calls Try.prog 57 #[.int .i64 (posK u v j : Nat), .int .i64 v] W fun e w' => e = .returned (.int .i64 (posK u v (j + 1) : Nat)) ∧ W = w' := by
  have h0 : posK u v j ≤ 80 := by unfold posK; unfold dst at hj; split <;> omega
  refine (toward_any (posK u v j : Nat) v W ⟨by omega, by omega⟩).mono ?_
  rintro e w' ⟨he, hw⟩
  refine ⟨?_, hw⟩
  rw [he]
  unfold posK
  unfold dst at hj
  by_cases h : u < v
  · rw [if_pos h, if_pos h, if_pos (by omega)]; congr 2 <;> omega
  · rw [if_neg h, if_neg h, if_neg (by omega)]; congr 2 <;> omega
def swV (s : Sw) : Value := .agg #[.int .i64 s.1, .int .i64 s.2.1, .int .i64 s.2.2]
theorem step_w (N L : Int) (a : Option Addr) (l : List Chg) (ca : Nat) (u v : Nat) (hr : RoadOk N L l) (hu : u ≤ l.length) (hv : v ≤ l.length) (j : Nat) (hj : j < dst u v) (W : World) (hA : QuadS W a l) :
    Calls Try.prog 58 #[.agg #[.int .i64 N, .int .i64 L, .slice a l.length ca], .int .i64 (posK u v j : Nat), .int .i64 (posK u v (j + 1) : Nat)] W fun e w' => e = .returned (.agg #[.int .i64 (swK l u v j).1, .int .i64 (swK l u v j).2.1, .int .i64 (swK l u v j).2.2]) ∧ Below W.heap.size W w' := by
  unfold dst at hj
  by_cases h : u < v
  · have e1 : posK u v j = u + j := by unfold posK; rw [if_pos h]
    have e2 : posK u v (j + 1) = u + j + 1 := by unfold posK; rw [if_pos h]; omega
    have e3 : swK l u v j = upSw (gc l (u + j)) := by unfold swK; rw [if_pos h]
    rw [e1, e2, e3]
    exact step_up N L a l ca (u + j) (u + j + 1) W hA hr (by omega) (by omega)
  · have e1 : posK u v j = u - j := by unfold posK; rw [if_neg h]
    have e2 : posK u v (j + 1) = u - 1 - j := by unfold posK; rw [if_neg h]; omega
    have e3 : swK l u v j = dnSw (gc l (u - 1 - j)) := by unfold swK; rw [if_neg h]
    rw [e1, e2, e3]
    exact step_dn N L a l ca (u - j) (u - 1 - j) W hA hr (by omega) (by omega)
theorem ver_at (N L : Int) (a : Option Addr) (l : List Chg) (ca : Nat) (u v : Nat) (w : World) (hA : QuadS w a l) (he : errL N L l [(u : Int), (v : Int)] = 0) (hk : u ≤ l.length) : ∀ W, Below w.heap.size w W → Calls Try.prog 36 #[.agg #[.int .i64 N, .int .i64 L, .slice a l.length ca], .int .i64 u, .int .i64 v] W fun e w' => ∃ b c, e = .returned (.tuple #[.slice b (l.length + 1) c, .int .i64 0]) ∧ (∃ blk off, b = some ⟨blk, off, none⟩ ∧ w'.cell? ⟨blk, off + u, none⟩ = some (.int .i64 (lenK L l u))) ∧ Below W.heap.size W w' := fun W hW => (versions_any N L a l ca u v W (hA.below hW)).mono fun e w' h => by
  rcases h with ⟨h, b, c, e1, hI, hb⟩ | ⟨h, _⟩
  · obtain ⟨_, blk, off, h1, h2⟩ := hI
    have hll := lens_len L l l.length
    have h3 := h2 u (by omega)
    rw [lens_at L l hk] at h3
    exact ⟨b, c, e1, ⟨blk, off, h1 (pos_ne (n := 0) (i := 0) (by omega)), h3⟩, hb⟩
  · exact absurd he h
theorem ver_bad (N L : Int) (a : Option Addr) (l : List Chg) (ca : Nat) (u v : Int) (w : World) (hA : QuadS w a l) (he : errL N L l [u, v] ≠ 0) : ∀ W, Below w.heap.size w W → Calls Try.prog 36 #[.agg #[.int .i64 N, .int .i64 L, .slice a l.length ca], .int .i64 u, .int .i64 v] W fun e w' => e = .returned (.tuple #[.slice none 0 0, .int .i64 (errL N L l [u, v])]) ∧ Below W.heap.size W w' := fun W hW => (versions_any N L a l ca u v W (hA.below hW)).mono fun e w' h => by
  rcases h with ⟨h, _⟩ | ⟨_, h1, h2⟩
  · exact absurd h he
  · exact ⟨h1, h2⟩
end Go.Proofs.Ytdiabpcpcilclaa
