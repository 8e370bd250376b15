/-
  What faults the signs of a row have: endsAny, code, faulty. By an AI agent.; Library functions laid at this program, in plain words. By an AI agent.; faulty; slices.SortFunc at faults. By an AI agent.; Parts between cuts, and stretches metre by metre: one list. By an AI agent.
-/
import Derived.Test.YtiagflackfkmnaaGreatMgRuleFaults1
import Derived.Test.YtiagflackfkmnaaGreatMgRuleFaults4
import Derived.Test.YtiagflackfkmnaaGreatMgRuleFaults6
import Derived.Test.YtiagflackfkmnaaGreatMgRuleFaults11
import Derived.Deep.RegionHeld3
import Derived.Deep.AppendLies
import Derived.BigQuiet
import Derived.BigRegion
import Derived.Shelf.SlSortCmp.WholeK
import Derived.Ground.SlsfProg
import Derived.Test.YtiagflackfkmnaaGreatProg
import Derived.Shelf.SlSortCmp.NoneTotal
import Derived.Lib.OwnBridge
import Derived.Lib.AppendIntMem

namespace Go.Proofs.YtiagflackfkmnaaGreat
set_option linter.unusedVariables false
set_option linter.unusedSimpArgs false
open Go.RowKit

set_option maxRecDepth 100000 in
set_option maxHeartbeats 1000000 in
theorem idxEa_any (aa : Option Addr) (l : List (Int)) (ca : Nat) (lb : Array Value) (p : Nat → Bool) (w : World) (hA : IntsS w aa l)
    (hp : ∀ j W, j < l.length → Below w.heap.size w W → Calls Tryz.prog 122 (#[.int .i64 (gi l j)] ++ lb) W fun e w' => e = .returned (.bool (p j)) ∧ Below W.heap.size W w') :
    Calls Tryz.prog 151 #[.slice aa l.length ca, .func (.func 122) #[] lb] w fun e w' => e = .returned (.int .i64 (idxK p l.length)) ∧ Below w.heap.size w w' := by
  obtain ⟨hlen, -, blk, off, hadr, hc⟩ := hA
  have HP := Lib.hid hp
  have HC := Lib.hid hc
  have HH : Hid (∀ k, k < l.length → p k = true → (∀ j, j < k → p j = false) → idxK p l.length = k) := Lib.hid fun k hk h hb => idxK_hit h hb _ hk
  have HM : Hid ((∀ j, j < l.length → p j = false) → idxK p l.length = -1) := Lib.hid fun h => idxK_miss _ h
  have HL : Hid (0 < l.length → aa = some ⟨blk, off, none⟩) := Lib.hid fun h => hadr (pos_ne (n := 0) h)
  generalize idxK p l.length = R at *
  clear hp hc hadr
  go_enter Tryz.func151, Tryz.ntmps151
  go_wp2_with fail
  go_loopw [8] (fun i wr => ∃ k : Nat, k ≤ l.length ∧ i = .int .i64 k ∧ Below w.heap.size w wr ∧ Hid (∀ j, j < k → p j = false)) (fun i _ => l.length - (intOf i).toNat)
  case atStart => exact ⟨0, Nat.zero_le _, rfl, Below.refl _ _, Lib.hid fun j hj => absurd hj (Nat.not_lt_zero _)⟩
  case round =>
    obtain ⟨k, hk, rfl, hb, HA⟩ := hrel
    by_cases hlt : k < l.length
    · obtain rfl := HL.out (by omega)
      have c0 := cell_below (HC.out k hlt) hb
      have HK := Lib.hid (fun W => HP.out k W hlt)
      have HHk := Lib.hid (HH.out k hlt)
      have HN : Hid (p k = false → ∀ j, j < k + 1 → p j = false) := Lib.hid fun h j hj => by
        by_cases e : j = k
        · subst e; exact h
        · exact HA.out j (by omega)
      clear HP HC HM HL HH
      generalize (gi l k) = x0 at *
      cases hpk : p k with
      | true =>
        have HR := Lib.hid (HHk.out hpk HA.out)
        rw [hpk] at HK
        clear hpk HHk HN
        go_wp2_with fail
        refine (HK.out _ hb).mono ?_
        rintro e w1 ⟨rfl, hb1⟩
        go_wp2_with fail
        go_ret
        rw [HR.out]
        exact ⟨rfl, hb.trans (hb1.mono hb.size)⟩
      | false =>
        have HR := Lib.hid (HN.out hpk)
        rw [hpk] at HK
        clear hpk HHk HN
        go_wp2_with fail
        refine (HK.out _ hb).mono ?_
        rintro e w1 ⟨rfl, hb1⟩
        go_wp2_with fail
        go_roundw
        case rel => exact ⟨k + 1, by omega, by go_num, hb.trans (hb1.mono hb.size), HR⟩
        case measure => simp [intOf]; omega
    · obtain rfl : k = l.length := by omega
      have HR := Lib.hid (HM.out HA.out)
      go_wp2_with fail
      go_ret
      rw [HR.out]
      exact ⟨rfl, hb⟩

set_option maxRecDepth 100000 in
theorem containsEa_any (aa : Option Addr) (l : List (Int)) (ca : Nat) (lb : Array Value) (p : Nat → Bool) (w : World) (hA : IntsS w aa l)
    (hp : ∀ j W, j < l.length → Below w.heap.size w W → Calls Tryz.prog 122 (#[.int .i64 (gi l j)] ++ lb) W fun e w' => e = .returned (.bool (p j)) ∧ Below W.heap.size W w') :
    Calls Tryz.prog 121 #[.slice aa l.length ca, .func (.func 122) #[] lb] w fun e w' => e = .returned (.bool (anyK p l.length)) ∧ Below w.heap.size w w' := by
  have H := Lib.hid (idxEa_any aa l ca lb p w hA hp)
  have hq := Lib.hid (idxK_any p l.length)
  clear hp hA
  generalize idxK p l.length = R at *
  generalize anyK p l.length = B at *
  have hq := hq.out
  subst hq
  go_enter Tryz.func121, Tryz.ntmps121
  go_wp2_with fail
  refine H.out.mono ?_
  rintro e w1 ⟨rfl, hb1⟩
  go_wp2_with fail
  all_goals
    go_ret
    exact ⟨by simp_all, hb1⟩

/-- Is an end one of a topic of which something holds ahead of it? -/
def endP (row : List Pst) (p : Pst) (t : Int) : Bool := endB p.s.k t && (hldL t (p.d - 1) row 0 != 0)
/-- The fault of a sign of a row, or 0. -/
def codP (L : Int) (row : List Pst) (p : Pst) : Int :=
  if p.s.k = 7 then (if p.b = false ∨ L - p.d < p.s.v then 1 else 0)
  else if p.s.k = 6 then (if p.d = L ∨ hldL 1 p.d row 0 ≠ p.s.v then 2 else 0)
  else if p.s.k = 2 ∨ p.s.k = 4 ∨ p.s.k = 5 then (if (endP row p 1 || endP row p 2) = true then 0 else 3)
  else if p.s.k = 1 ∨ p.s.k = 3 then (if p.d = L then 4 else 0) else 0
set_option maxRecDepth 100000 in
set_option maxHeartbeats 2000000 in
theorem endsAny1_r (L : Int) (ar : Option Addr) (row : List Pst) (cr : Nat) (p : Pst) (ad : Option Addr) (cp pb ib : Nat) (t : Int) (hd : -100000 ≤ p.d ∧ p.d ≤ 100000) (w : World) (hR : PstS w ar row) (c1 : w.cell? ⟨pb, 1, none⟩ = some (.int .i64 p.s.k)) (c9 : w.cell? ⟨pb, 9, none⟩ = some (.int .i64 p.d)) (i1 : w.cell? ⟨ib, 1, none⟩ = some (.slice ar row.length cr)) :
    Calls Tryz.prog 122 (#[.int .i64 t] ++ #[.pointer (some ⟨pb, 0, none⟩), .pointer (some ⟨ib, 0, none⟩)]) w fun e w' => e = .returned (.bool (endP row p t)) ∧ Below w.heap.size w w' := by
  change Calls Tryz.prog 122 #[.int .i64 t, .pointer (some ⟨pb, 0, none⟩), .pointer (some ⟨ib, 0, none⟩)] w _
  have HE := Lib.hid (fun W => isEnd_r p.s.k t W)
  have HH := Lib.hid (fun W (hW : Below w.heap.size w W) => holdsAt_r ar row cr t (p.d - 1) W (hR.below hW))
  have HP : Hid (endP row p t = (endB p.s.k t && (hldL t (p.d - 1) row 0 != 0))) := Lib.hid rfl
  generalize hldL t (p.d - 1) row 0 = V at *
  generalize endB p.s.k t = eb at *
  clear hR
  cases eb with
  | false =>
    have hv : Hid (endP row p t = false) := Lib.hid (by rw [HP.out]; rfl)
    clear HP HH
    go_enter Tryz.func122, Tryz.ntmps122
    go_wp2_with (go_at_call 92; refine (HE.out _).mono ?_; rintro e w2 ⟨rfl, rfl⟩)
    go_ret
    exact ⟨by rw [hv.out] <;> rfl, Below.refl _ _⟩
  | true =>
    by_cases h0 : V = 0
    · have hv : Hid (endP row p t = false) := Lib.hid (by rw [HP.out, h0]; rfl)
      have d0 : (V != 0) = false := by rw [h0]; rfl
      clear HP h0
      go_enter Tryz.func122, Tryz.ntmps122
      go_wp2_with (first | (go_at_call 92; refine (HE.out _).mono ?_; rintro e w2 ⟨rfl, rfl⟩) | (go_at_call 53; refine (HH.out _ (Below.refl _ _)).mono ?_; rintro e w3 ⟨rfl, hb3⟩))
      go_ret
      exact ⟨by rw [hv.out] <;> rfl, hb3⟩
    · have d0 : (V != 0) = true := by simp [h0]
      have hv : Hid (endP row p t = true) := Lib.hid (by rw [HP.out, d0]; rfl)
      clear HP h0
      go_enter Tryz.func122, Tryz.ntmps122
      go_wp2_with (first | (go_at_call 92; refine (HE.out _).mono ?_; rintro e w2 ⟨rfl, rfl⟩) | (go_at_call 53; refine (HH.out _ (Below.refl _ _)).mono ?_; rintro e w3 ⟨rfl, hb3⟩))
      go_ret
      exact ⟨by rw [hv.out] <;> rfl, hb3⟩
set_option maxRecDepth 100000 in
set_option maxHeartbeats 2000000 in
theorem endsAny_r (L : Int) (ar : Option Addr) (row : List Pst) (cr : Nat) (p : Pst) (ad : Option Addr) (cp : Nat) (g : Nat) (hd : -100000 ≤ p.d ∧ p.d ≤ 100000) (w : World) (hR : PstS w ar row) (hT : IntsS w (some ⟨g, 0, none⟩) [1, 2]) :
    Calls Tryz.prog 99 #[.agg #[.int .i64 L, .slice ar row.length cr], .agg #[.int .i64 p.s.n, .int .i64 p.s.k, .int .i64 p.s.v, .int .i64 p.s.c, .int .i64 p.s.d, .int .i64 p.s.rk, .int .i64 p.s.up, .int .i64 p.s.dn, .slice ad p.s.cv.length cp, .int .i64 p.d, .int .i64 p.u, .bool p.b], .slice (some ⟨g, 0, none⟩) 2 2] w fun e w' => e = .returned (.bool (endP row p 1 || endP row p 2)) ∧ Below w.heap.size w w' := by
  have HC := Lib.hid (fun W (hW : Below w.heap.size w W) (c1 : W.cell? ⟨w.heap.size + 1, 1, none⟩ = some (.int .i64 p.s.k)) (c9 : W.cell? ⟨w.heap.size + 1, 9, none⟩ = some (.int .i64 p.d)) (i1 : W.cell? ⟨w.heap.size, 1, none⟩ = some (.slice ar row.length cr)) => containsEa_any (some ⟨g, 0, none⟩) [1, 2] 2 #[.pointer (some ⟨w.heap.size + 1, 0, none⟩), .pointer (some ⟨w.heap.size, 0, none⟩)] (fun j => endP row p (gi [1, 2] j)) W (hT.below hW) (fun j W' hj hb' => endsAny1_r L ar row cr p ad cp (w.heap.size + 1) w.heap.size (gi [1, 2] j) hd W' ((hR.below hW).below hb') (cell_below c1 hb') (cell_below c9 hb') (cell_below i1 hb')))
  have HV : Hid (anyK (fun j => endP row p (gi [1, 2] j)) [(1 : Int), 2].length = (endP row p 1 || endP row p 2)) := Lib.hid (by show ((false || endP row p 1) || endP row p 2) = _; rw [Bool.false_or])
  clear hR hT
  go_enter Tryz.func99, Tryz.ntmps99
  go_upto_region 1 with (fail)
  obtain ⟨wB, hwB⟩ : ∃ wB, (w.alloc (.cells #[.int .i64 L, .slice ar row.length cr] 106)).alloc (.cells #[.int .i64 p.s.n, .int .i64 p.s.k, .int .i64 p.s.v, .int .i64 p.s.c, .int .i64 p.s.d, .int .i64 p.s.rk, .int .i64 p.s.up, .int .i64 p.s.dn, .slice ad p.s.cv.length cp, .int .i64 p.d, .int .i64 p.u, .bool p.b] 82) = wB := ⟨_, rfl⟩
  have hb : Below w.heap.size w wB := by rw [← hwB]; exact ((Below.refl _ _).alloc (Nat.le_refl _) _).alloc (by simp) _
  have i0 : wB.cell? ⟨w.heap.size, 0, none⟩ = some (.int .i64 L) := by rw [← hwB]; simp [go_sem]
  have i1 : wB.cell? ⟨w.heap.size, 1, none⟩ = some (.slice ar row.length cr) := by rw [← hwB]; simp [go_sem]
  have x0 : wB.cell? ⟨w.heap.size + 1, 0, none⟩ = some (.int .i64 p.s.n) := by rw [← hwB]; simp [go_sem]
  have x1 : wB.cell? ⟨w.heap.size + 1, 1, none⟩ = some (.int .i64 p.s.k) := by rw [← hwB]; simp [go_sem]
  have x2 : wB.cell? ⟨w.heap.size + 1, 2, none⟩ = some (.int .i64 p.s.v) := by rw [← hwB]; simp [go_sem]
  have x3 : wB.cell? ⟨w.heap.size + 1, 3, none⟩ = some (.int .i64 p.s.c) := by rw [← hwB]; simp [go_sem]
  have x4 : wB.cell? ⟨w.heap.size + 1, 4, none⟩ = some (.int .i64 p.s.d) := by rw [← hwB]; simp [go_sem]
  have x5 : wB.cell? ⟨w.heap.size + 1, 5, none⟩ = some (.int .i64 p.s.rk) := by rw [← hwB]; simp [go_sem]
  have x6 : wB.cell? ⟨w.heap.size + 1, 6, none⟩ = some (.int .i64 p.s.up) := by rw [← hwB]; simp [go_sem]
  have x7 : wB.cell? ⟨w.heap.size + 1, 7, none⟩ = some (.int .i64 p.s.dn) := by rw [← hwB]; simp [go_sem]
  have x8 : wB.cell? ⟨w.heap.size + 1, 8, none⟩ = some (.slice ad p.s.cv.length cp) := by rw [← hwB]; simp [go_sem]
  have x9 : wB.cell? ⟨w.heap.size + 1, 9, none⟩ = some (.int .i64 p.d) := by rw [← hwB]; simp [go_sem]
  have x10 : wB.cell? ⟨w.heap.size + 1, 10, none⟩ = some (.int .i64 p.u) := by rw [← hwB]; simp [go_sem]
  have x11 : wB.cell? ⟨w.heap.size + 1, 11, none⟩ = some (.bool p.b) := by rw [← hwB]; simp [go_sem]
  rw [hwB]
  clear hwB
  have HCc := Lib.hid (HC.out wB hb x1 x9 i1)
  rw [HV.out] at HCc
  clear HC HV x0 x1 x2 x3 x4 x5 x6 x7 x8 x9 x10 x11 i0 i1
  go_wp2_with (go_at_call 121; refine HCc.out.mono ?_; rintro e w2 ⟨rfl, hb2⟩)
  go_ret
  exact ⟨rfl, hb.trans (hb2.mono hb.size)⟩
theorem ex_ints2 (w : World) : IntsS (w.alloc (.cells #[.int .i64 1, .int .i64 2] 3)) (some ⟨w.heap.size, 0, none⟩) [1, 2] := by
  refine ⟨by decide, fun i hi => ?_, w.heap.size, 0, fun _ => rfl, fun i hi => ?_⟩
  · have hi : i < 2 := hi
    by_cases e : i = 0
    · subst e; exact ⟨by decide, by decide⟩
    · obtain rfl : i = 1 := by omega
      exact ⟨by decide, by decide⟩
  · have hi : i < 2 := hi
    by_cases e : i = 0
    · subst e; simp [go_sem]; rfl
    · obtain rfl : i = 1 := by omega
      simp [go_sem]; rfl
set_option maxRecDepth 100000 in
set_option maxHeartbeats 8000000 in
theorem code_r (L : Int) (ar : Option Addr) (row : List Pst) (cr : Nat) (p : Pst) (ad : Option Addr) (cp : Nat) (hL : 0 ≤ L ∧ L ≤ 100000) (hd : -100000 ≤ p.d ∧ p.d ≤ 100000) (hv1 : -100000 ≤ p.s.v ∧ p.s.v ≤ 100000) (w : World) (hR : PstS w ar row) :
    Calls Tryz.prog 65 #[.agg #[.int .i64 L, .slice ar row.length cr], .agg #[.int .i64 p.s.n, .int .i64 p.s.k, .int .i64 p.s.v, .int .i64 p.s.c, .int .i64 p.s.d, .int .i64 p.s.rk, .int .i64 p.s.up, .int .i64 p.s.dn, .slice ad p.s.cv.length cp, .int .i64 p.d, .int .i64 p.u, .bool p.b]] w fun e w' => e = .returned (.int .i64 (codP L row p)) ∧ Below w.heap.size w w' := by
  have HH := Lib.hid (fun W (hW : Below w.heap.size w W) => holdsAt_r ar row cr 1 p.d W (hR.below hW))
  have HE := Lib.hid (fun W g (hW : Below w.heap.size w W) hT => endsAny_r L ar row cr p ad cp g hd W (hR.below hW) hT)
  obtain ⟨V, hV⟩ : ∃ V, hldL 1 p.d row 0 = V := ⟨_, rfl⟩
  have HVe := Lib.hid hV
  rw [hV] at HH
  obtain ⟨eb, heb⟩ : ∃ eb, (endP row p 1 || endP row p 2) = eb := ⟨_, rfl⟩
  have HEe := Lib.hid heb
  rw [heb] at HE
  clear hR hV heb
  by_cases h7 : p.s.k = 7
  · have k7 : (p.s.k == 7) = true := by rw [h7]; rfl
    rcases Bool.eq_false_or_eq_true p.b with hpb | hpb
    rotate_left
    · skip
      have hv : Hid (codP L row p = 1) := Lib.hid (by unfold codP; rw [if_pos h7, if_pos (.inl hpb)])
      have HPB := Lib.hid hpb
      clear h7 HH HE hpb
      go_enter Tryz.func65, Tryz.ntmps65
      go_upto_region 1 with (fail)
      obtain ⟨wB, hwB⟩ : ∃ wB, (w.alloc (.cells #[.int .i64 L, .slice ar row.length cr] 106)).alloc (.cells #[.int .i64 p.s.n, .int .i64 p.s.k, .int .i64 p.s.v, .int .i64 p.s.c, .int .i64 p.s.d, .int .i64 p.s.rk, .int .i64 p.s.up, .int .i64 p.s.dn, .slice ad p.s.cv.length cp, .int .i64 p.d, .int .i64 p.u, .bool p.b] 82) = wB := ⟨_, rfl⟩
      have hb : Below w.heap.size w wB := by rw [← hwB]; exact ((Below.refl _ _).alloc (Nat.le_refl _) _).alloc (by simp) _
      have i0 : wB.cell? ⟨w.heap.size, 0, none⟩ = some (.int .i64 L) := by rw [← hwB]; simp [go_sem]
      have i1 : wB.cell? ⟨w.heap.size, 1, none⟩ = some (.slice ar row.length cr) := by rw [← hwB]; simp [go_sem]
      have x0 : wB.cell? ⟨w.heap.size + 1, 0, none⟩ = some (.int .i64 p.s.n) := by rw [← hwB]; simp [go_sem]
      have x1 : wB.cell? ⟨w.heap.size + 1, 1, none⟩ = some (.int .i64 p.s.k) := by rw [← hwB]; simp [go_sem]
      have x2 : wB.cell? ⟨w.heap.size + 1, 2, none⟩ = some (.int .i64 p.s.v) := by rw [← hwB]; simp [go_sem]
      have x3 : wB.cell? ⟨w.heap.size + 1, 3, none⟩ = some (.int .i64 p.s.c) := by rw [← hwB]; simp [go_sem]
      have x4 : wB.cell? ⟨w.heap.size + 1, 4, none⟩ = some (.int .i64 p.s.d) := by rw [← hwB]; simp [go_sem]
      have x5 : wB.cell? ⟨w.heap.size + 1, 5, none⟩ = some (.int .i64 p.s.rk) := by rw [← hwB]; simp [go_sem]
      have x6 : wB.cell? ⟨w.heap.size + 1, 6, none⟩ = some (.int .i64 p.s.up) := by rw [← hwB]; simp [go_sem]
      have x7 : wB.cell? ⟨w.heap.size + 1, 7, none⟩ = some (.int .i64 p.s.dn) := by rw [← hwB]; simp [go_sem]
      have x8 : wB.cell? ⟨w.heap.size + 1, 8, none⟩ = some (.slice ad p.s.cv.length cp) := by rw [← hwB]; simp [go_sem]
      have x9 : wB.cell? ⟨w.heap.size + 1, 9, none⟩ = some (.int .i64 p.d) := by rw [← hwB]; simp [go_sem]
      have x10 : wB.cell? ⟨w.heap.size + 1, 10, none⟩ = some (.int .i64 p.u) := by rw [← hwB]; simp [go_sem]
      have x11 : wB.cell? ⟨w.heap.size + 1, 11, none⟩ = some (.bool p.b) := by rw [← hwB]; simp [go_sem]
      rw [hwB]
      clear hwB
      rw [HPB.out] at x11
      go_wp2_with fail
      go_ret
      exact ⟨by rw [hv.out] <;> rfl, hb⟩
    · by_cases hvv : L - p.d < p.s.v
      · have hv : Hid (codP L row p = 1) := Lib.hid (by unfold codP; rw [if_pos h7, if_pos (.inr hvv)])
        have HPB := Lib.hid hpb
        clear h7 HH HE hpb
        go_enter Tryz.func65, Tryz.ntmps65
        go_upto_region 1 with (fail)
        obtain ⟨wB, hwB⟩ : ∃ wB, (w.alloc (.cells #[.int .i64 L, .slice ar row.length cr] 106)).alloc (.cells #[.int .i64 p.s.n, .int .i64 p.s.k, .int .i64 p.s.v, .int .i64 p.s.c, .int .i64 p.s.d, .int .i64 p.s.rk, .int .i64 p.s.up, .int .i64 p.s.dn, .slice ad p.s.cv.length cp, .int .i64 p.d, .int .i64 p.u, .bool p.b] 82) = wB := ⟨_, rfl⟩
        have hb : Below w.heap.size w wB := by rw [← hwB]; exact ((Below.refl _ _).alloc (Nat.le_refl _) _).alloc (by simp) _
        have i0 : wB.cell? ⟨w.heap.size, 0, none⟩ = some (.int .i64 L) := by rw [← hwB]; simp [go_sem]
        have i1 : wB.cell? ⟨w.heap.size, 1, none⟩ = some (.slice ar row.length cr) := by rw [← hwB]; simp [go_sem]
        have x0 : wB.cell? ⟨w.heap.size + 1, 0, none⟩ = some (.int .i64 p.s.n) := by rw [← hwB]; simp [go_sem]
        have x1 : wB.cell? ⟨w.heap.size + 1, 1, none⟩ = some (.int .i64 p.s.k) := by rw [← hwB]; simp [go_sem]
        have x2 : wB.cell? ⟨w.heap.size + 1, 2, none⟩ = some (.int .i64 p.s.v) := by rw [← hwB]; simp [go_sem]
        have x3 : wB.cell? ⟨w.heap.size + 1, 3, none⟩ = some (.int .i64 p.s.c) := by rw [← hwB]; simp [go_sem]
        have x4 : wB.cell? ⟨w.heap.size + 1, 4, none⟩ = some (.int .i64 p.s.d) := by rw [← hwB]; simp [go_sem]
        have x5 : wB.cell? ⟨w.heap.size + 1, 5, none⟩ = some (.int .i64 p.s.rk) := by rw [← hwB]; simp [go_sem]
        have x6 : wB.cell? ⟨w.heap.size + 1, 6, none⟩ = some (.int .i64 p.s.up) := by rw [← hwB]; simp [go_sem]
        have x7 : wB.cell? ⟨w.heap.size + 1, 7, none⟩ = some (.int .i64 p.s.dn) := by rw [← hwB]; simp [go_sem]
        have x8 : wB.cell? ⟨w.heap.size + 1, 8, none⟩ = some (.slice ad p.s.cv.length cp) := by rw [← hwB]; simp [go_sem]
        have x9 : wB.cell? ⟨w.heap.size + 1, 9, none⟩ = some (.int .i64 p.d) := by rw [← hwB]; simp [go_sem]
        have x10 : wB.cell? ⟨w.heap.size + 1, 10, none⟩ = some (.int .i64 p.u) := by rw [← hwB]; simp [go_sem]
        have x11 : wB.cell? ⟨w.heap.size + 1, 11, none⟩ = some (.bool p.b) := by rw [← hwB]; simp [go_sem]
        rw [hwB]
        clear hwB
        rw [HPB.out] at x11
        go_wp2_with fail
        go_ret
        exact ⟨by rw [hv.out] <;> rfl, hb⟩
      · have hv : Hid (codP L row p = 0) := Lib.hid (by unfold codP; rw [if_pos h7, if_neg (by rw [hpb]; simp; omega)])
        have HPB := Lib.hid hpb
        clear h7 HH HE hpb
        go_enter Tryz.func65, Tryz.ntmps65
        go_upto_region 1 with (fail)
        obtain ⟨wB, hwB⟩ : ∃ wB, (w.alloc (.cells #[.int .i64 L, .slice ar row.length cr] 106)).alloc (.cells #[.int .i64 p.s.n, .int .i64 p.s.k, .int .i64 p.s.v, .int .i64 p.s.c, .int .i64 p.s.d, .int .i64 p.s.rk, .int .i64 p.s.up, .int .i64 p.s.dn, .slice ad p.s.cv.length cp, .int .i64 p.d, .int .i64 p.u, .bool p.b] 82) = wB := ⟨_, rfl⟩
        have hb : Below w.heap.size w wB := by rw [← hwB]; exact ((Below.refl _ _).alloc (Nat.le_refl _) _).alloc (by simp) _
        have i0 : wB.cell? ⟨w.heap.size, 0, none⟩ = some (.int .i64 L) := by rw [← hwB]; simp [go_sem]
        have i1 : wB.cell? ⟨w.heap.size, 1, none⟩ = some (.slice ar row.length cr) := by rw [← hwB]; simp [go_sem]
        have x0 : wB.cell? ⟨w.heap.size + 1, 0, none⟩ = some (.int .i64 p.s.n) := by rw [← hwB]; simp [go_sem]
        have x1 : wB.cell? ⟨w.heap.size + 1, 1, none⟩ = some (.int .i64 p.s.k) := by rw [← hwB]; simp [go_sem]
        have x2 : wB.cell? ⟨w.heap.size + 1, 2, none⟩ = some (.int .i64 p.s.v) := by rw [← hwB]; simp [go_sem]
        have x3 : wB.cell? ⟨w.heap.size + 1, 3, none⟩ = some (.int .i64 p.s.c) := by rw [← hwB]; simp [go_sem]
        have x4 : wB.cell? ⟨w.heap.size + 1, 4, none⟩ = some (.int .i64 p.s.d) := by rw [← hwB]; simp [go_sem]
        have x5 : wB.cell? ⟨w.heap.size + 1, 5, none⟩ = some (.int .i64 p.s.rk) := by rw [← hwB]; simp [go_sem]
        have x6 : wB.cell? ⟨w.heap.size + 1, 6, none⟩ = some (.int .i64 p.s.up) := by rw [← hwB]; simp [go_sem]
        have x7 : wB.cell? ⟨w.heap.size + 1, 7, none⟩ = some (.int .i64 p.s.dn) := by rw [← hwB]; simp [go_sem]
        have x8 : wB.cell? ⟨w.heap.size + 1, 8, none⟩ = some (.slice ad p.s.cv.length cp) := by rw [← hwB]; simp [go_sem]
        have x9 : wB.cell? ⟨w.heap.size + 1, 9, none⟩ = some (.int .i64 p.d) := by rw [← hwB]; simp [go_sem]
        have x10 : wB.cell? ⟨w.heap.size + 1, 10, none⟩ = some (.int .i64 p.u) := by rw [← hwB]; simp [go_sem]
        have x11 : wB.cell? ⟨w.heap.size + 1, 11, none⟩ = some (.bool p.b) := by rw [← hwB]; simp [go_sem]
        rw [hwB]
        clear hwB
        rw [HPB.out] at x11
        go_wp2_with fail
        go_ret
        exact ⟨by rw [hv.out] <;> rfl, hb⟩
  by_cases h6 : p.s.k = 6
  · have k7 : (p.s.k == 7) = false := beq_false_of_ne h7
    have k6 : (p.s.k == 6) = true := by rw [h6]; rfl
    by_cases hdl : p.d = L
    · have dd : (p.d == L) = true := by rw [hdl]; simp
      have hv : Hid (codP L row p = 2) := Lib.hid (by unfold codP; rw [if_neg h7, if_pos h6, if_pos (.inl hdl)])
      clear h7 h6 hdl HE HH
      go_enter Tryz.func65, Tryz.ntmps65
      go_upto_region 1 with (fail)
      obtain ⟨wB, hwB⟩ : ∃ wB, (w.alloc (.cells #[.int .i64 L, .slice ar row.length cr] 106)).alloc (.cells #[.int .i64 p.s.n, .int .i64 p.s.k, .int .i64 p.s.v, .int .i64 p.s.c, .int .i64 p.s.d, .int .i64 p.s.rk, .int .i64 p.s.up, .int .i64 p.s.dn, .slice ad p.s.cv.length cp, .int .i64 p.d, .int .i64 p.u, .bool p.b] 82) = wB := ⟨_, rfl⟩
      have hb : Below w.heap.size w wB := by rw [← hwB]; exact ((Below.refl _ _).alloc (Nat.le_refl _) _).alloc (by simp) _
      have i0 : wB.cell? ⟨w.heap.size, 0, none⟩ = some (.int .i64 L) := by rw [← hwB]; simp [go_sem]
      have i1 : wB.cell? ⟨w.heap.size, 1, none⟩ = some (.slice ar row.length cr) := by rw [← hwB]; simp [go_sem]
      have x0 : wB.cell? ⟨w.heap.size + 1, 0, none⟩ = some (.int .i64 p.s.n) := by rw [← hwB]; simp [go_sem]
      have x1 : wB.cell? ⟨w.heap.size + 1, 1, none⟩ = some (.int .i64 p.s.k) := by rw [← hwB]; simp [go_sem]
      have x2 : wB.cell? ⟨w.heap.size + 1, 2, none⟩ = some (.int .i64 p.s.v) := by rw [← hwB]; simp [go_sem]
      have x3 : wB.cell? ⟨w.heap.size + 1, 3, none⟩ = some (.int .i64 p.s.c) := by rw [← hwB]; simp [go_sem]
      have x4 : wB.cell? ⟨w.heap.size + 1, 4, none⟩ = some (.int .i64 p.s.d) := by rw [← hwB]; simp [go_sem]
      have x5 : wB.cell? ⟨w.heap.size + 1, 5, none⟩ = some (.int .i64 p.s.rk) := by rw [← hwB]; simp [go_sem]
      have x6 : wB.cell? ⟨w.heap.size + 1, 6, none⟩ = some (.int .i64 p.s.up) := by rw [← hwB]; simp [go_sem]
      have x7 : wB.cell? ⟨w.heap.size + 1, 7, none⟩ = some (.int .i64 p.s.dn) := by rw [← hwB]; simp [go_sem]
      have x8 : wB.cell? ⟨w.heap.size + 1, 8, none⟩ = some (.slice ad p.s.cv.length cp) := by rw [← hwB]; simp [go_sem]
      have x9 : wB.cell? ⟨w.heap.size + 1, 9, none⟩ = some (.int .i64 p.d) := by rw [← hwB]; simp [go_sem]
      have x10 : wB.cell? ⟨w.heap.size + 1, 10, none⟩ = some (.int .i64 p.u) := by rw [← hwB]; simp [go_sem]
      have x11 : wB.cell? ⟨w.heap.size + 1, 11, none⟩ = some (.bool p.b) := by rw [← hwB]; simp [go_sem]
      rw [hwB]
      clear hwB
      have hzi := block_lt i0
      have hzx := block_lt x0
      go_wp2_with fail
      refine wp_region_held_drew (S := fun w' => Below wB.heap.size wB w') (by kernel_rfl) ((Below.refl _ _).drew) (fun hHeld => ?_)
      refine takeU (i := 0) (some 26) (.pointer (some ⟨w.heap.size + 1, 9, none⟩)) (by kernel_rfl) (by kernel_rfl) (by kernel_rfl) (by kernel_rfl) (by kernel_rfl) (fun _ => by kernel_rfl) (fun _ _ _ h => h) hHeld ?_
      refine wpAnyH_take (i := 1) (oi := { dst := some 27, op := Go.Op.load 3 (Go.Operand.tmp 26), type := 3, pos := "fault.go:52", after := #[{ on := 0, ground := Go.Ground.data }], guard := none }) (v := .int .i64 p.d) rfl (by kernel_rfl) (by kernel_rfl) (by kernel_rfl) (fun _ _ _ h => h) (.inl ⟨by kernel_rfl, fun w9 h9 => by
        clear hHeld
        have d0 := (h9.cell (p := ⟨w.heap.size + 1, 9, none⟩) hzx).trans x9
        clear h9
        go_simp⟩) hHeld ?_
      refine takeU (i := 2) (some 28) (.pointer (some ⟨w.heap.size, 0, none⟩)) (by kernel_rfl) (by kernel_rfl) (by kernel_rfl) (by kernel_rfl) (by kernel_rfl) (fun _ => by kernel_rfl) (fun _ _ _ h => h) hHeld ?_
      refine wpAnyH_take (i := 3) (oi := { dst := some 29, op := Go.Op.load 3 (Go.Operand.tmp 28), type := 3, pos := "fault.go:52", after := #[{ on := 2, ground := Go.Ground.data }], guard := none }) (v := .int .i64 L) rfl (by kernel_rfl) (by kernel_rfl) (by kernel_rfl) (fun _ _ _ h => h) (.inl ⟨by kernel_rfl, fun w9 h9 => by
        clear hHeld
        have d0 := (h9.cell (p := ⟨w.heap.size, 0, none⟩) hzi).trans i0
        clear h9
        go_simp⟩) hHeld ?_
      refine wpAnyH_take (i := 4) (oi := { dst := some 30, op := Go.Op.binOp Go.BinOp.eql 3 (Go.Operand.tmp 27) (Go.Operand.tmp 29) 3, type := 4, pos := "fault.go:52", after := #[{ on := 1, ground := Go.Ground.data }, { on := 3, ground := Go.Ground.data }], guard := none }) (v := .bool true) rfl (by kernel_rfl) (by kernel_rfl) (by kernel_rfl) (fun _ _ _ h => h) (.inl ⟨by kernel_rfl, fun w9 h9 => by
        clear hHeld h9
        go_simp⟩) hHeld ?_
      refine takeU (i := 5) (some 31) (.bool true) (by kernel_rfl) (by kernel_rfl) (by kernel_rfl) (by kernel_rfl) (by kernel_rfl) (fun _ => by kernel_rfl) (fun _ _ _ h => h) hHeld ?_
      refine skipU (i := 6) (some 32) (by kernel_rfl) (by kernel_rfl) (by kernel_rfl) (by kernel_rfl) (by kernel_rfl) (fun _ _ _ h => h) hHeld ?_
      refine skipU (i := 7) (some 33) (by kernel_rfl) (by kernel_rfl) (by kernel_rfl) (by kernel_rfl) (by kernel_rfl) (fun _ _ _ h => h) hHeld ?_
      refine skipU (i := 8) (some 34) (by kernel_rfl) (by kernel_rfl) (by kernel_rfl) (by kernel_rfl) (by kernel_rfl) (fun _ _ _ h => h) hHeld ?_
      refine skipU (i := 9) (some 35) (by kernel_rfl) (by kernel_rfl) (by kernel_rfl) (by kernel_rfl) (by kernel_rfl) (fun _ _ _ h => h) hHeld ?_
      refine skipU (i := 10) (some 36) (by kernel_rfl) (by kernel_rfl) (by kernel_rfl) (by kernel_rfl) (by kernel_rfl) (fun _ _ _ h => h) hHeld ?_
      refine skipU (i := 11) (some 37) (by kernel_rfl) (by kernel_rfl) (by kernel_rfl) (by kernel_rfl) (by kernel_rfl) (fun _ _ _ h => h) hHeld ?_
      refine skipU (i := 12) (some 38) (by kernel_rfl) (by kernel_rfl) (by kernel_rfl) (by kernel_rfl) (by kernel_rfl) (fun _ _ _ h => h) hHeld ?_
      refine skipU (i := 13) (some 39) (by kernel_rfl) (by kernel_rfl) (by kernel_rfl) (by kernel_rfl) (by kernel_rfl) (fun _ _ _ h => h) hHeld ?_
      refine skipU (i := 14) (some 40) (by kernel_rfl) (by kernel_rfl) (by kernel_rfl) (by kernel_rfl) (by kernel_rfl) (fun _ _ _ h => h) hHeld ?_
      refine takeU (i := 15) (some 41) (.bool true) (by kernel_rfl) (by kernel_rfl) (by kernel_rfl) (by kernel_rfl) (by kernel_rfl) (fun _ => by kernel_rfl) (fun _ _ _ h => h) hHeld ?_
      refine wpAnyH_done (by kernel_rfl) ?_ _
      try simp only [Act.put, List.setIfInBounds_toArray, List.set_cons_zero, List.set_cons_succ]
      go_wp2_with fail
      go_ret
      exact ⟨by rw [hv.out] <;> rfl, hb.trans (hHeld.mono hb.size)⟩
    · have dd : (p.d == L) = false := beq_false_of_ne hdl
      by_cases hvv : V = p.s.v
      · have d2 : (V != p.s.v) = false := by rw [hvv]; simp
        have hv : Hid (codP L row p = 0) := Lib.hid (by unfold codP; rw [if_neg h7, if_pos h6, if_neg (by rw [HVe.out]; simp [hdl, hvv])])
        clear h7 h6 hdl HE hvv
        go_enter Tryz.func65, Tryz.ntmps65
        go_upto_region 1 with (fail)
        obtain ⟨wB, hwB⟩ : ∃ wB, (w.alloc (.cells #[.int .i64 L, .slice ar row.length cr] 106)).alloc (.cells #[.int .i64 p.s.n, .int .i64 p.s.k, .int .i64 p.s.v, .int .i64 p.s.c, .int .i64 p.s.d, .int .i64 p.s.rk, .int .i64 p.s.up, .int .i64 p.s.dn, .slice ad p.s.cv.length cp, .int .i64 p.d, .int .i64 p.u, .bool p.b] 82) = wB := ⟨_, rfl⟩
        have hb : Below w.heap.size w wB := by rw [← hwB]; exact ((Below.refl _ _).alloc (Nat.le_refl _) _).alloc (by simp) _
        have i0 : wB.cell? ⟨w.heap.size, 0, none⟩ = some (.int .i64 L) := by rw [← hwB]; simp [go_sem]
        have i1 : wB.cell? ⟨w.heap.size, 1, none⟩ = some (.slice ar row.length cr) := by rw [← hwB]; simp [go_sem]
        have x0 : wB.cell? ⟨w.heap.size + 1, 0, none⟩ = some (.int .i64 p.s.n) := by rw [← hwB]; simp [go_sem]
        have x1 : wB.cell? ⟨w.heap.size + 1, 1, none⟩ = some (.int .i64 p.s.k) := by rw [← hwB]; simp [go_sem]
        have x2 : wB.cell? ⟨w.heap.size + 1, 2, none⟩ = some (.int .i64 p.s.v) := by rw [← hwB]; simp [go_sem]
        have x3 : wB.cell? ⟨w.heap.size + 1, 3, none⟩ = some (.int .i64 p.s.c) := by rw [← hwB]; simp [go_sem]
        have x4 : wB.cell? ⟨w.heap.size + 1, 4, none⟩ = some (.int .i64 p.s.d) := by rw [← hwB]; simp [go_sem]
        have x5 : wB.cell? ⟨w.heap.size + 1, 5, none⟩ = some (.int .i64 p.s.rk) := by rw [← hwB]; simp [go_sem]
        have x6 : wB.cell? ⟨w.heap.size + 1, 6, none⟩ = some (.int .i64 p.s.up) := by rw [← hwB]; simp [go_sem]
        have x7 : wB.cell? ⟨w.heap.size + 1, 7, none⟩ = some (.int .i64 p.s.dn) := by rw [← hwB]; simp [go_sem]
        have x8 : wB.cell? ⟨w.heap.size + 1, 8, none⟩ = some (.slice ad p.s.cv.length cp) := by rw [← hwB]; simp [go_sem]
        have x9 : wB.cell? ⟨w.heap.size + 1, 9, none⟩ = some (.int .i64 p.d) := by rw [← hwB]; simp [go_sem]
        have x10 : wB.cell? ⟨w.heap.size + 1, 10, none⟩ = some (.int .i64 p.u) := by rw [← hwB]; simp [go_sem]
        have x11 : wB.cell? ⟨w.heap.size + 1, 11, none⟩ = some (.bool p.b) := by rw [← hwB]; simp [go_sem]
        rw [hwB]
        clear hwB
        have hzi := block_lt i0
        have hzx := block_lt x0
        go_wp2_with fail
        refine wp_region_held_drew (S := fun w' => Below wB.heap.size wB w') (by kernel_rfl) ((Below.refl _ _).drew) (fun hHeld => ?_)
        refine takeU (i := 0) (some 26) (.pointer (some ⟨w.heap.size + 1, 9, none⟩)) (by kernel_rfl) (by kernel_rfl) (by kernel_rfl) (by kernel_rfl) (by kernel_rfl) (fun _ => by kernel_rfl) (fun _ _ _ h => h) hHeld ?_
        refine wpAnyH_take (i := 1) (oi := { dst := some 27, op := Go.Op.load 3 (Go.Operand.tmp 26), type := 3, pos := "fault.go:52", after := #[{ on := 0, ground := Go.Ground.data }], guard := none }) (v := .int .i64 p.d) rfl (by kernel_rfl) (by kernel_rfl) (by kernel_rfl) (fun _ _ _ h => h) (.inl ⟨by kernel_rfl, fun w9 h9 => by
          clear hHeld
          have d0 := (h9.cell (p := ⟨w.heap.size + 1, 9, none⟩) hzx).trans x9
          clear h9
          go_simp⟩) hHeld ?_
        refine takeU (i := 2) (some 28) (.pointer (some ⟨w.heap.size, 0, none⟩)) (by kernel_rfl) (by kernel_rfl) (by kernel_rfl) (by kernel_rfl) (by kernel_rfl) (fun _ => by kernel_rfl) (fun _ _ _ h => h) hHeld ?_
        refine wpAnyH_take (i := 3) (oi := { dst := some 29, op := Go.Op.load 3 (Go.Operand.tmp 28), type := 3, pos := "fault.go:52", after := #[{ on := 2, ground := Go.Ground.data }], guard := none }) (v := .int .i64 L) rfl (by kernel_rfl) (by kernel_rfl) (by kernel_rfl) (fun _ _ _ h => h) (.inl ⟨by kernel_rfl, fun w9 h9 => by
          clear hHeld
          have d0 := (h9.cell (p := ⟨w.heap.size, 0, none⟩) hzi).trans i0
          clear h9
          go_simp⟩) hHeld ?_
        refine wpAnyH_take (i := 4) (oi := { dst := some 30, op := Go.Op.binOp Go.BinOp.eql 3 (Go.Operand.tmp 27) (Go.Operand.tmp 29) 3, type := 4, pos := "fault.go:52", after := #[{ on := 1, ground := Go.Ground.data }, { on := 3, ground := Go.Ground.data }], guard := none }) (v := .bool false) rfl (by kernel_rfl) (by kernel_rfl) (by kernel_rfl) (fun _ _ _ h => h) (.inl ⟨by kernel_rfl, fun w9 h9 => by
          clear hHeld h9
          go_simp⟩) hHeld ?_
        refine takeU (i := 5) (some 31) (.bool false) (by kernel_rfl) (by kernel_rfl) (by kernel_rfl) (by kernel_rfl) (by kernel_rfl) (fun _ => by kernel_rfl) (fun _ _ _ h => h) hHeld ?_
        refine takeU (i := 6) (some 32) (.pointer (some ⟨w.heap.size, 1, none⟩)) (by kernel_rfl) (by kernel_rfl) (by kernel_rfl) (by kernel_rfl) (by kernel_rfl) (fun _ => by kernel_rfl) (fun _ _ _ h => h) hHeld ?_
        refine wpAnyH_take (i := 7) (oi := { dst := some 33, op := Go.Op.load 79 (Go.Operand.tmp 32), type := 79, pos := "fault.go:52", after := #[{ on := 6, ground := Go.Ground.data }, { on := 5, ground := Go.Ground.guard }], guard := some (5, false) }) (v := .slice ar row.length cr) rfl (by kernel_rfl) (by kernel_rfl) (by kernel_rfl) (fun _ _ _ h => h) (.inl ⟨by kernel_rfl, fun w9 h9 => by
          clear hHeld
          have d0 := (h9.cell (p := ⟨w.heap.size, 1, none⟩) hzi).trans i1
          clear h9
          go_simp⟩) hHeld ?_
        refine takeU (i := 8) (some 34) (.pointer (some ⟨w.heap.size + 1, 9, none⟩)) (by kernel_rfl) (by kernel_rfl) (by kernel_rfl) (by kernel_rfl) (by kernel_rfl) (fun _ => by kernel_rfl) (fun _ _ _ h => h) hHeld ?_
        refine wpAnyH_take (i := 9) (oi := { dst := some 35, op := Go.Op.load 3 (Go.Operand.tmp 34), type := 3, pos := "fault.go:52", after := #[{ on := 8, ground := Go.Ground.data }, { on := 5, ground := Go.Ground.guard }], guard := some (5, false) }) (v := .int .i64 p.d) rfl (by kernel_rfl) (by kernel_rfl) (by kernel_rfl) (fun _ _ _ h => h) (.inl ⟨by kernel_rfl, fun w9 h9 => by
          clear hHeld
          have d0 := (h9.cell (p := ⟨w.heap.size + 1, 9, none⟩) hzx).trans x9
          clear h9
          go_simp⟩) hHeld ?_
        refine takeU (i := 11) (some 37) (.pointer (some ⟨w.heap.size + 1, 0, none⟩)) (by kernel_rfl) (by kernel_rfl) (by kernel_rfl) (by kernel_rfl) (by kernel_rfl) (fun _ => by kernel_rfl) (fun _ _ _ h => h) hHeld ?_
        refine takeU (i := 12) (some 38) (.pointer (some ⟨w.heap.size + 1, 2, none⟩)) (by kernel_rfl) (by kernel_rfl) (by kernel_rfl) (by kernel_rfl) (by kernel_rfl) (fun _ => by kernel_rfl) (fun _ _ _ h => h) hHeld ?_
        refine wpAnyH_take (i := 13) (oi := { dst := some 39, op := Go.Op.load 3 (Go.Operand.tmp 38), type := 3, pos := "fault.go:52", after := #[{ on := 12, ground := Go.Ground.data }, { on := 5, ground := Go.Ground.guard }], guard := some (5, false) }) (v := .int .i64 p.s.v) rfl (by kernel_rfl) (by kernel_rfl) (by kernel_rfl) (fun _ _ _ h => h) (.inl ⟨by kernel_rfl, fun w9 h9 => by
          clear hHeld
          have d0 := (h9.cell (p := ⟨w.heap.size + 1, 2, none⟩) hzx).trans x2
          clear h9
          go_simp⟩) hHeld ?_
        try simp only [Act.put, List.setIfInBounds_toArray, List.set_cons_zero, List.set_cons_succ]
        refine wpAnyH_ready (rs := [10]) (by kernel_rfl) (by simp) ?_
        refine AllReadyH.cons (o := { dst := some 36, op := Go.Op.call { callee := Go.Callee.value (Go.Operand.func 53), args := #[Go.Operand.tmp 33, Go.Operand.const (Go.Value.int Go.IntKind.i64 1), Go.Operand.tmp 35], argTypes := #[79, 3, 3] }, type := 3, pos := "fault.go:52", after := #[{ on := 7, ground := Go.Ground.data }, { on := 9, ground := Go.Ground.data }, { on := 5, ground := Go.Ground.chain }, { on := 5, ground := Go.Ground.guard }], guard := some (5, false) }) rfl (fun K hK => ?_) AllReadyH.nil
        go_simp
        go_at_call 53
        refine (HH.out _ (hb.trans (hHeld.mono hb.size))).mono ?_
        rintro e w109 ⟨rfl, hb109⟩
        refine hK.out _ _ (hHeld.trans (hb109.mono hHeld.size)) (fun hHeld => ?_)
        clear hK K hb109
        try simp only [Act.put, List.setIfInBounds_toArray, List.set_cons_zero, List.set_cons_succ]
        refine wpAnyH_take (i := 14) (oi := { dst := some 40, op := Go.Op.binOp Go.BinOp.neq 3 (Go.Operand.tmp 36) (Go.Operand.tmp 39) 3, type := 4, pos := "fault.go:52", after := #[{ on := 10, ground := Go.Ground.data }, { on := 13, ground := Go.Ground.data }, { on := 5, ground := Go.Ground.guard }], guard := some (5, false) }) (v := .bool false) rfl (by kernel_rfl) (by kernel_rfl) (by kernel_rfl) (fun _ _ _ h => h) (.inl ⟨by kernel_rfl, fun w9 h9 => by
          clear hHeld h9
          go_simp⟩) hHeld ?_
        refine takeU (i := 15) (some 41) (.bool false) (by kernel_rfl) (by kernel_rfl) (by kernel_rfl) (by kernel_rfl) (by kernel_rfl) (fun _ => by kernel_rfl) (fun _ _ _ h => h) hHeld ?_
        refine wpAnyH_done (by kernel_rfl) ?_ _
        try simp only [Act.put, List.setIfInBounds_toArray, List.set_cons_zero, List.set_cons_succ]
        go_wp2_with fail
        go_ret
        exact ⟨by rw [hv.out] <;> rfl, hb.trans (hHeld.mono hb.size)⟩
      · have d2 : (V != p.s.v) = true := by simp [hvv]
        have hv : Hid (codP L row p = 2) := Lib.hid (by unfold codP; rw [if_neg h7, if_pos h6, if_pos (.inr (by rw [HVe.out]; exact hvv))])
        clear h7 h6 hdl HE hvv
        go_enter Tryz.func65, Tryz.ntmps65
        go_upto_region 1 with (fail)
        obtain ⟨wB, hwB⟩ : ∃ wB, (w.alloc (.cells #[.int .i64 L, .slice ar row.length cr] 106)).alloc (.cells #[.int .i64 p.s.n, .int .i64 p.s.k, .int .i64 p.s.v, .int .i64 p.s.c, .int .i64 p.s.d, .int .i64 p.s.rk, .int .i64 p.s.up, .int .i64 p.s.dn, .slice ad p.s.cv.length cp, .int .i64 p.d, .int .i64 p.u, .bool p.b] 82) = wB := ⟨_, rfl⟩
        have hb : Below w.heap.size w wB := by rw [← hwB]; exact ((Below.refl _ _).alloc (Nat.le_refl _) _).alloc (by simp) _
        have i0 : wB.cell? ⟨w.heap.size, 0, none⟩ = some (.int .i64 L) := by rw [← hwB]; simp [go_sem]
        have i1 : wB.cell? ⟨w.heap.size, 1, none⟩ = some (.slice ar row.length cr) := by rw [← hwB]; simp [go_sem]
        have x0 : wB.cell? ⟨w.heap.size + 1, 0, none⟩ = some (.int .i64 p.s.n) := by rw [← hwB]; simp [go_sem]
        have x1 : wB.cell? ⟨w.heap.size + 1, 1, none⟩ = some (.int .i64 p.s.k) := by rw [← hwB]; simp [go_sem]
        have x2 : wB.cell? ⟨w.heap.size + 1, 2, none⟩ = some (.int .i64 p.s.v) := by rw [← hwB]; simp [go_sem]
        have x3 : wB.cell? ⟨w.heap.size + 1, 3, none⟩ = some (.int .i64 p.s.c) := by rw [← hwB]; simp [go_sem]
        have x4 : wB.cell? ⟨w.heap.size + 1, 4, none⟩ = some (.int .i64 p.s.d) := by rw [← hwB]; simp [go_sem]
        have x5 : wB.cell? ⟨w.heap.size + 1, 5, none⟩ = some (.int .i64 p.s.rk) := by rw [← hwB]; simp [go_sem]
        have x6 : wB.cell? ⟨w.heap.size + 1, 6, none⟩ = some (.int .i64 p.s.up) := by rw [← hwB]; simp [go_sem]
        have x7 : wB.cell? ⟨w.heap.size + 1, 7, none⟩ = some (.int .i64 p.s.dn) := by rw [← hwB]; simp [go_sem]
        have x8 : wB.cell? ⟨w.heap.size + 1, 8, none⟩ = some (.slice ad p.s.cv.length cp) := by rw [← hwB]; simp [go_sem]
        have x9 : wB.cell? ⟨w.heap.size + 1, 9, none⟩ = some (.int .i64 p.d) := by rw [← hwB]; simp [go_sem]
        have x10 : wB.cell? ⟨w.heap.size + 1, 10, none⟩ = some (.int .i64 p.u) := by rw [← hwB]; simp [go_sem]
        have x11 : wB.cell? ⟨w.heap.size + 1, 11, none⟩ = some (.bool p.b) := by rw [← hwB]; simp [go_sem]
        rw [hwB]
        clear hwB
        have hzi := block_lt i0
        have hzx := block_lt x0
        go_wp2_with fail
        refine wp_region_held_drew (S := fun w' => Below wB.heap.size wB w') (by kernel_rfl) ((Below.refl _ _).drew) (fun hHeld => ?_)
        refine takeU (i := 0) (some 26) (.pointer (some ⟨w.heap.size + 1, 9, none⟩)) (by kernel_rfl) (by kernel_rfl) (by kernel_rfl) (by kernel_rfl) (by kernel_rfl) (fun _ => by kernel_rfl) (fun _ _ _ h => h) hHeld ?_
        refine wpAnyH_take (i := 1) (oi := { dst := some 27, op := Go.Op.load 3 (Go.Operand.tmp 26), type := 3, pos := "fault.go:52", after := #[{ on := 0, ground := Go.Ground.data }], guard := none }) (v := .int .i64 p.d) rfl (by kernel_rfl) (by kernel_rfl) (by kernel_rfl) (fun _ _ _ h => h) (.inl ⟨by kernel_rfl, fun w9 h9 => by
          clear hHeld
          have d0 := (h9.cell (p := ⟨w.heap.size + 1, 9, none⟩) hzx).trans x9
          clear h9
          go_simp⟩) hHeld ?_
        refine takeU (i := 2) (some 28) (.pointer (some ⟨w.heap.size, 0, none⟩)) (by kernel_rfl) (by kernel_rfl) (by kernel_rfl) (by kernel_rfl) (by kernel_rfl) (fun _ => by kernel_rfl) (fun _ _ _ h => h) hHeld ?_
        refine wpAnyH_take (i := 3) (oi := { dst := some 29, op := Go.Op.load 3 (Go.Operand.tmp 28), type := 3, pos := "fault.go:52", after := #[{ on := 2, ground := Go.Ground.data }], guard := none }) (v := .int .i64 L) rfl (by kernel_rfl) (by kernel_rfl) (by kernel_rfl) (fun _ _ _ h => h) (.inl ⟨by kernel_rfl, fun w9 h9 => by
          clear hHeld
          have d0 := (h9.cell (p := ⟨w.heap.size, 0, none⟩) hzi).trans i0
          clear h9
          go_simp⟩) hHeld ?_
        refine wpAnyH_take (i := 4) (oi := { dst := some 30, op := Go.Op.binOp Go.BinOp.eql 3 (Go.Operand.tmp 27) (Go.Operand.tmp 29) 3, type := 4, pos := "fault.go:52", after := #[{ on := 1, ground := Go.Ground.data }, { on := 3, ground := Go.Ground.data }], guard := none }) (v := .bool false) rfl (by kernel_rfl) (by kernel_rfl) (by kernel_rfl) (fun _ _ _ h => h) (.inl ⟨by kernel_rfl, fun w9 h9 => by
          clear hHeld h9
          go_simp⟩) hHeld ?_
        refine takeU (i := 5) (some 31) (.bool false) (by kernel_rfl) (by kernel_rfl) (by kernel_rfl) (by kernel_rfl) (by kernel_rfl) (fun _ => by kernel_rfl) (fun _ _ _ h => h) hHeld ?_
        refine takeU (i := 6) (some 32) (.pointer (some ⟨w.heap.size, 1, none⟩)) (by kernel_rfl) (by kernel_rfl) (by kernel_rfl) (by kernel_rfl) (by kernel_rfl) (fun _ => by kernel_rfl) (fun _ _ _ h => h) hHeld ?_
        refine wpAnyH_take (i := 7) (oi := { dst := some 33, op := Go.Op.load 79 (Go.Operand.tmp 32), type := 79, pos := "fault.go:52", after := #[{ on := 6, ground := Go.Ground.data }, { on := 5, ground := Go.Ground.guard }], guard := some (5, false) }) (v := .slice ar row.length cr) rfl (by kernel_rfl) (by kernel_rfl) (by kernel_rfl) (fun _ _ _ h => h) (.inl ⟨by kernel_rfl, fun w9 h9 => by
          clear hHeld
          have d0 := (h9.cell (p := ⟨w.heap.size, 1, none⟩) hzi).trans i1
          clear h9
          go_simp⟩) hHeld ?_
        refine takeU (i := 8) (some 34) (.pointer (some ⟨w.heap.size + 1, 9, none⟩)) (by kernel_rfl) (by kernel_rfl) (by kernel_rfl) (by kernel_rfl) (by kernel_rfl) (fun _ => by kernel_rfl) (fun _ _ _ h => h) hHeld ?_
        refine wpAnyH_take (i := 9) (oi := { dst := some 35, op := Go.Op.load 3 (Go.Operand.tmp 34), type := 3, pos := "fault.go:52", after := #[{ on := 8, ground := Go.Ground.data }, { on := 5, ground := Go.Ground.guard }], guard := some (5, false) }) (v := .int .i64 p.d) rfl (by kernel_rfl) (by kernel_rfl) (by kernel_rfl) (fun _ _ _ h => h) (.inl ⟨by kernel_rfl, fun w9 h9 => by
          clear hHeld
          have d0 := (h9.cell (p := ⟨w.heap.size + 1, 9, none⟩) hzx).trans x9
          clear h9
          go_simp⟩) hHeld ?_
        refine takeU (i := 11) (some 37) (.pointer (some ⟨w.heap.size + 1, 0, none⟩)) (by kernel_rfl) (by kernel_rfl) (by kernel_rfl) (by kernel_rfl) (by kernel_rfl) (fun _ => by kernel_rfl) (fun _ _ _ h => h) hHeld ?_
        refine takeU (i := 12) (some 38) (.pointer (some ⟨w.heap.size + 1, 2, none⟩)) (by kernel_rfl) (by kernel_rfl) (by kernel_rfl) (by kernel_rfl) (by kernel_rfl) (fun _ => by kernel_rfl) (fun _ _ _ h => h) hHeld ?_
        refine wpAnyH_take (i := 13) (oi := { dst := some 39, op := Go.Op.load 3 (Go.Operand.tmp 38), type := 3, pos := "fault.go:52", after := #[{ on := 12, ground := Go.Ground.data }, { on := 5, ground := Go.Ground.guard }], guard := some (5, false) }) (v := .int .i64 p.s.v) rfl (by kernel_rfl) (by kernel_rfl) (by kernel_rfl) (fun _ _ _ h => h) (.inl ⟨by kernel_rfl, fun w9 h9 => by
          clear hHeld
          have d0 := (h9.cell (p := ⟨w.heap.size + 1, 2, none⟩) hzx).trans x2
          clear h9
          go_simp⟩) hHeld ?_
        try simp only [Act.put, List.setIfInBounds_toArray, List.set_cons_zero, List.set_cons_succ]
        refine wpAnyH_ready (rs := [10]) (by kernel_rfl) (by simp) ?_
        refine AllReadyH.cons (o := { dst := some 36, op := Go.Op.call { callee := Go.Callee.value (Go.Operand.func 53), args := #[Go.Operand.tmp 33, Go.Operand.const (Go.Value.int Go.IntKind.i64 1), Go.Operand.tmp 35], argTypes := #[79, 3, 3] }, type := 3, pos := "fault.go:52", after := #[{ on := 7, ground := Go.Ground.data }, { on := 9, ground := Go.Ground.data }, { on := 5, ground := Go.Ground.chain }, { on := 5, ground := Go.Ground.guard }], guard := some (5, false) }) rfl (fun K hK => ?_) AllReadyH.nil
        go_simp
        go_at_call 53
        refine (HH.out _ (hb.trans (hHeld.mono hb.size))).mono ?_
        rintro e w109 ⟨rfl, hb109⟩
        refine hK.out _ _ (hHeld.trans (hb109.mono hHeld.size)) (fun hHeld => ?_)
        clear hK K hb109
        try simp only [Act.put, List.setIfInBounds_toArray, List.set_cons_zero, List.set_cons_succ]
        refine wpAnyH_take (i := 14) (oi := { dst := some 40, op := Go.Op.binOp Go.BinOp.neq 3 (Go.Operand.tmp 36) (Go.Operand.tmp 39) 3, type := 4, pos := "fault.go:52", after := #[{ on := 10, ground := Go.Ground.data }, { on := 13, ground := Go.Ground.data }, { on := 5, ground := Go.Ground.guard }], guard := some (5, false) }) (v := .bool true) rfl (by kernel_rfl) (by kernel_rfl) (by kernel_rfl) (fun _ _ _ h => h) (.inl ⟨by kernel_rfl, fun w9 h9 => by
          clear hHeld h9
          go_simp⟩) hHeld ?_
        refine takeU (i := 15) (some 41) (.bool true) (by kernel_rfl) (by kernel_rfl) (by kernel_rfl) (by kernel_rfl) (by kernel_rfl) (fun _ => by kernel_rfl) (fun _ _ _ h => h) hHeld ?_
        refine wpAnyH_done (by kernel_rfl) ?_ _
        try simp only [Act.put, List.setIfInBounds_toArray, List.set_cons_zero, List.set_cons_succ]
        go_wp2_with fail
        go_ret
        exact ⟨by rw [hv.out] <;> rfl, hb.trans (hHeld.mono hb.size)⟩
  by_cases h2 : p.s.k = 2
  · cases eb with
    | true =>
      have hv : Hid (codP L row p = 0) := Lib.hid (by unfold codP; rw [if_neg h7, if_neg h6, if_pos (.inl h2), HEe.out, if_pos rfl])
      have k7 : (p.s.k == 7) = false := beq_false_of_ne h7
      have k6 : (p.s.k == 6) = false := beq_false_of_ne h6
      have k2 : (p.s.k == 2) = true := by rw [h2]; rfl
      clear h7 h6 h2 HH
      go_enter Tryz.func65, Tryz.ntmps65
      go_upto_region 1 with (fail)
      obtain ⟨wB, hwB⟩ : ∃ wB, (w.alloc (.cells #[.int .i64 L, .slice ar row.length cr] 106)).alloc (.cells #[.int .i64 p.s.n, .int .i64 p.s.k, .int .i64 p.s.v, .int .i64 p.s.c, .int .i64 p.s.d, .int .i64 p.s.rk, .int .i64 p.s.up, .int .i64 p.s.dn, .slice ad p.s.cv.length cp, .int .i64 p.d, .int .i64 p.u, .bool p.b] 82) = wB := ⟨_, rfl⟩
      have hb : Below w.heap.size w wB := by rw [← hwB]; exact ((Below.refl _ _).alloc (Nat.le_refl _) _).alloc (by simp) _
      have i0 : wB.cell? ⟨w.heap.size, 0, none⟩ = some (.int .i64 L) := by rw [← hwB]; simp [go_sem]
      have i1 : wB.cell? ⟨w.heap.size, 1, none⟩ = some (.slice ar row.length cr) := by rw [← hwB]; simp [go_sem]
      have x0 : wB.cell? ⟨w.heap.size + 1, 0, none⟩ = some (.int .i64 p.s.n) := by rw [← hwB]; simp [go_sem]
      have x1 : wB.cell? ⟨w.heap.size + 1, 1, none⟩ = some (.int .i64 p.s.k) := by rw [← hwB]; simp [go_sem]
      have x2 : wB.cell? ⟨w.heap.size + 1, 2, none⟩ = some (.int .i64 p.s.v) := by rw [← hwB]; simp [go_sem]
      have x3 : wB.cell? ⟨w.heap.size + 1, 3, none⟩ = some (.int .i64 p.s.c) := by rw [← hwB]; simp [go_sem]
      have x4 : wB.cell? ⟨w.heap.size + 1, 4, none⟩ = some (.int .i64 p.s.d) := by rw [← hwB]; simp [go_sem]
      have x5 : wB.cell? ⟨w.heap.size + 1, 5, none⟩ = some (.int .i64 p.s.rk) := by rw [← hwB]; simp [go_sem]
      have x6 : wB.cell? ⟨w.heap.size + 1, 6, none⟩ = some (.int .i64 p.s.up) := by rw [← hwB]; simp [go_sem]
      have x7 : wB.cell? ⟨w.heap.size + 1, 7, none⟩ = some (.int .i64 p.s.dn) := by rw [← hwB]; simp [go_sem]
      have x8 : wB.cell? ⟨w.heap.size + 1, 8, none⟩ = some (.slice ad p.s.cv.length cp) := by rw [← hwB]; simp [go_sem]
      have x9 : wB.cell? ⟨w.heap.size + 1, 9, none⟩ = some (.int .i64 p.d) := by rw [← hwB]; simp [go_sem]
      have x10 : wB.cell? ⟨w.heap.size + 1, 10, none⟩ = some (.int .i64 p.u) := by rw [← hwB]; simp [go_sem]
      have x11 : wB.cell? ⟨w.heap.size + 1, 11, none⟩ = some (.bool p.b) := by rw [← hwB]; simp [go_sem]
      rw [hwB]
      clear hwB
      go_wp2_with (go_at_call 99; refine (HE.out _ (wB.heap.size) ((hb.alloc hb.size _)) (by have := ex_ints2 wB; exact this)).mono ?_; rintro e w2 ⟨rfl, hb2⟩)
      go_ret
      exact ⟨by rw [hv.out] <;> rfl, (hb.alloc hb.size _).trans (hb2.mono (hb.alloc hb.size _).size)⟩
    | false =>
      have hv : Hid (codP L row p = 3) := Lib.hid (by unfold codP; rw [if_neg h7, if_neg h6, if_pos (.inl h2), HEe.out, if_neg (by simp)])
      have k7 : (p.s.k == 7) = false := beq_false_of_ne h7
      have k6 : (p.s.k == 6) = false := beq_false_of_ne h6
      have k2 : (p.s.k == 2) = true := by rw [h2]; rfl
      clear h7 h6 h2 HH
      go_enter Tryz.func65, Tryz.ntmps65
      go_upto_region 1 with (fail)
      obtain ⟨wB, hwB⟩ : ∃ wB, (w.alloc (.cells #[.int .i64 L, .slice ar row.length cr] 106)).alloc (.cells #[.int .i64 p.s.n, .int .i64 p.s.k, .int .i64 p.s.v, .int .i64 p.s.c, .int .i64 p.s.d, .int .i64 p.s.rk, .int .i64 p.s.up, .int .i64 p.s.dn, .slice ad p.s.cv.length cp, .int .i64 p.d, .int .i64 p.u, .bool p.b] 82) = wB := ⟨_, rfl⟩
      have hb : Below w.heap.size w wB := by rw [← hwB]; exact ((Below.refl _ _).alloc (Nat.le_refl _) _).alloc (by simp) _
      have i0 : wB.cell? ⟨w.heap.size, 0, none⟩ = some (.int .i64 L) := by rw [← hwB]; simp [go_sem]
      have i1 : wB.cell? ⟨w.heap.size, 1, none⟩ = some (.slice ar row.length cr) := by rw [← hwB]; simp [go_sem]
      have x0 : wB.cell? ⟨w.heap.size + 1, 0, none⟩ = some (.int .i64 p.s.n) := by rw [← hwB]; simp [go_sem]
      have x1 : wB.cell? ⟨w.heap.size + 1, 1, none⟩ = some (.int .i64 p.s.k) := by rw [← hwB]; simp [go_sem]
      have x2 : wB.cell? ⟨w.heap.size + 1, 2, none⟩ = some (.int .i64 p.s.v) := by rw [← hwB]; simp [go_sem]
      have x3 : wB.cell? ⟨w.heap.size + 1, 3, none⟩ = some (.int .i64 p.s.c) := by rw [← hwB]; simp [go_sem]
      have x4 : wB.cell? ⟨w.heap.size + 1, 4, none⟩ = some (.int .i64 p.s.d) := by rw [← hwB]; simp [go_sem]
      have x5 : wB.cell? ⟨w.heap.size + 1, 5, none⟩ = some (.int .i64 p.s.rk) := by rw [← hwB]; simp [go_sem]
      have x6 : wB.cell? ⟨w.heap.size + 1, 6, none⟩ = some (.int .i64 p.s.up) := by rw [← hwB]; simp [go_sem]
      have x7 : wB.cell? ⟨w.heap.size + 1, 7, none⟩ = some (.int .i64 p.s.dn) := by rw [← hwB]; simp [go_sem]
      have x8 : wB.cell? ⟨w.heap.size + 1, 8, none⟩ = some (.slice ad p.s.cv.length cp) := by rw [← hwB]; simp [go_sem]
      have x9 : wB.cell? ⟨w.heap.size + 1, 9, none⟩ = some (.int .i64 p.d) := by rw [← hwB]; simp [go_sem]
      have x10 : wB.cell? ⟨w.heap.size + 1, 10, none⟩ = some (.int .i64 p.u) := by rw [← hwB]; simp [go_sem]
      have x11 : wB.cell? ⟨w.heap.size + 1, 11, none⟩ = some (.bool p.b) := by rw [← hwB]; simp [go_sem]
      rw [hwB]
      clear hwB
      go_wp2_with (go_at_call 99; refine (HE.out _ (wB.heap.size) ((hb.alloc hb.size _)) (by have := ex_ints2 wB; exact this)).mono ?_; rintro e w2 ⟨rfl, hb2⟩)
      go_ret
      exact ⟨by rw [hv.out] <;> rfl, (hb.alloc hb.size _).trans (hb2.mono (hb.alloc hb.size _).size)⟩
  by_cases h4 : p.s.k = 4
  · cases eb with
    | true =>
      have hv : Hid (codP L row p = 0) := Lib.hid (by unfold codP; rw [if_neg h7, if_neg h6, if_pos (.inr (.inl h4)), HEe.out, if_pos rfl])
      have k7 : (p.s.k == 7) = false := beq_false_of_ne h7
      have k6 : (p.s.k == 6) = false := beq_false_of_ne h6
      have k2 : (p.s.k == 2) = false := beq_false_of_ne h2
      have k4 : (p.s.k == 4) = true := by rw [h4]; rfl
      clear h7 h6 h2 h4 HH
      go_enter Tryz.func65, Tryz.ntmps65
      go_upto_region 1 with (fail)
      obtain ⟨wB, hwB⟩ : ∃ wB, (w.alloc (.cells #[.int .i64 L, .slice ar row.length cr] 106)).alloc (.cells #[.int .i64 p.s.n, .int .i64 p.s.k, .int .i64 p.s.v, .int .i64 p.s.c, .int .i64 p.s.d, .int .i64 p.s.rk, .int .i64 p.s.up, .int .i64 p.s.dn, .slice ad p.s.cv.length cp, .int .i64 p.d, .int .i64 p.u, .bool p.b] 82) = wB := ⟨_, rfl⟩
      have hb : Below w.heap.size w wB := by rw [← hwB]; exact ((Below.refl _ _).alloc (Nat.le_refl _) _).alloc (by simp) _
      have i0 : wB.cell? ⟨w.heap.size, 0, none⟩ = some (.int .i64 L) := by rw [← hwB]; simp [go_sem]
      have i1 : wB.cell? ⟨w.heap.size, 1, none⟩ = some (.slice ar row.length cr) := by rw [← hwB]; simp [go_sem]
      have x0 : wB.cell? ⟨w.heap.size + 1, 0, none⟩ = some (.int .i64 p.s.n) := by rw [← hwB]; simp [go_sem]
      have x1 : wB.cell? ⟨w.heap.size + 1, 1, none⟩ = some (.int .i64 p.s.k) := by rw [← hwB]; simp [go_sem]
      have x2 : wB.cell? ⟨w.heap.size + 1, 2, none⟩ = some (.int .i64 p.s.v) := by rw [← hwB]; simp [go_sem]
      have x3 : wB.cell? ⟨w.heap.size + 1, 3, none⟩ = some (.int .i64 p.s.c) := by rw [← hwB]; simp [go_sem]
      have x4 : wB.cell? ⟨w.heap.size + 1, 4, none⟩ = some (.int .i64 p.s.d) := by rw [← hwB]; simp [go_sem]
      have x5 : wB.cell? ⟨w.heap.size + 1, 5, none⟩ = some (.int .i64 p.s.rk) := by rw [← hwB]; simp [go_sem]
      have x6 : wB.cell? ⟨w.heap.size + 1, 6, none⟩ = some (.int .i64 p.s.up) := by rw [← hwB]; simp [go_sem]
      have x7 : wB.cell? ⟨w.heap.size + 1, 7, none⟩ = some (.int .i64 p.s.dn) := by rw [← hwB]; simp [go_sem]
      have x8 : wB.cell? ⟨w.heap.size + 1, 8, none⟩ = some (.slice ad p.s.cv.length cp) := by rw [← hwB]; simp [go_sem]
      have x9 : wB.cell? ⟨w.heap.size + 1, 9, none⟩ = some (.int .i64 p.d) := by rw [← hwB]; simp [go_sem]
      have x10 : wB.cell? ⟨w.heap.size + 1, 10, none⟩ = some (.int .i64 p.u) := by rw [← hwB]; simp [go_sem]
      have x11 : wB.cell? ⟨w.heap.size + 1, 11, none⟩ = some (.bool p.b) := by rw [← hwB]; simp [go_sem]
      rw [hwB]
      clear hwB
      go_wp2_with (go_at_call 99; refine (HE.out _ (wB.heap.size) ((hb.alloc hb.size _)) (by have := ex_ints2 wB; exact this)).mono ?_; rintro e w2 ⟨rfl, hb2⟩)
      go_ret
      exact ⟨by rw [hv.out] <;> rfl, (hb.alloc hb.size _).trans (hb2.mono (hb.alloc hb.size _).size)⟩
    | false =>
      have hv : Hid (codP L row p = 3) := Lib.hid (by unfold codP; rw [if_neg h7, if_neg h6, if_pos (.inr (.inl h4)), HEe.out, if_neg (by simp)])
      have k7 : (p.s.k == 7) = false := beq_false_of_ne h7
      have k6 : (p.s.k == 6) = false := beq_false_of_ne h6
      have k2 : (p.s.k == 2) = false := beq_false_of_ne h2
      have k4 : (p.s.k == 4) = true := by rw [h4]; rfl
      clear h7 h6 h2 h4 HH
      go_enter Tryz.func65, Tryz.ntmps65
      go_upto_region 1 with (fail)
      obtain ⟨wB, hwB⟩ : ∃ wB, (w.alloc (.cells #[.int .i64 L, .slice ar row.length cr] 106)).alloc (.cells #[.int .i64 p.s.n, .int .i64 p.s.k, .int .i64 p.s.v, .int .i64 p.s.c, .int .i64 p.s.d, .int .i64 p.s.rk, .int .i64 p.s.up, .int .i64 p.s.dn, .slice ad p.s.cv.length cp, .int .i64 p.d, .int .i64 p.u, .bool p.b] 82) = wB := ⟨_, rfl⟩
      have hb : Below w.heap.size w wB := by rw [← hwB]; exact ((Below.refl _ _).alloc (Nat.le_refl _) _).alloc (by simp) _
      have i0 : wB.cell? ⟨w.heap.size, 0, none⟩ = some (.int .i64 L) := by rw [← hwB]; simp [go_sem]
      have i1 : wB.cell? ⟨w.heap.size, 1, none⟩ = some (.slice ar row.length cr) := by rw [← hwB]; simp [go_sem]
      have x0 : wB.cell? ⟨w.heap.size + 1, 0, none⟩ = some (.int .i64 p.s.n) := by rw [← hwB]; simp [go_sem]
      have x1 : wB.cell? ⟨w.heap.size + 1, 1, none⟩ = some (.int .i64 p.s.k) := by rw [← hwB]; simp [go_sem]
      have x2 : wB.cell? ⟨w.heap.size + 1, 2, none⟩ = some (.int .i64 p.s.v) := by rw [← hwB]; simp [go_sem]
      have x3 : wB.cell? ⟨w.heap.size + 1, 3, none⟩ = some (.int .i64 p.s.c) := by rw [← hwB]; simp [go_sem]
      have x4 : wB.cell? ⟨w.heap.size + 1, 4, none⟩ = some (.int .i64 p.s.d) := by rw [← hwB]; simp [go_sem]
      have x5 : wB.cell? ⟨w.heap.size + 1, 5, none⟩ = some (.int .i64 p.s.rk) := by rw [← hwB]; simp [go_sem]
      have x6 : wB.cell? ⟨w.heap.size + 1, 6, none⟩ = some (.int .i64 p.s.up) := by rw [← hwB]; simp [go_sem]
      have x7 : wB.cell? ⟨w.heap.size + 1, 7, none⟩ = some (.int .i64 p.s.dn) := by rw [← hwB]; simp [go_sem]
      have x8 : wB.cell? ⟨w.heap.size + 1, 8, none⟩ = some (.slice ad p.s.cv.length cp) := by rw [← hwB]; simp [go_sem]
      have x9 : wB.cell? ⟨w.heap.size + 1, 9, none⟩ = some (.int .i64 p.d) := by rw [← hwB]; simp [go_sem]
      have x10 : wB.cell? ⟨w.heap.size + 1, 10, none⟩ = some (.int .i64 p.u) := by rw [← hwB]; simp [go_sem]
      have x11 : wB.cell? ⟨w.heap.size + 1, 11, none⟩ = some (.bool p.b) := by rw [← hwB]; simp [go_sem]
      rw [hwB]
      clear hwB
      go_wp2_with (go_at_call 99; refine (HE.out _ (wB.heap.size) ((hb.alloc hb.size _)) (by have := ex_ints2 wB; exact this)).mono ?_; rintro e w2 ⟨rfl, hb2⟩)
      go_ret
      exact ⟨by rw [hv.out] <;> rfl, (hb.alloc hb.size _).trans (hb2.mono (hb.alloc hb.size _).size)⟩
  by_cases h5 : p.s.k = 5
  · cases eb with
    | true =>
      have hv : Hid (codP L row p = 0) := Lib.hid (by unfold codP; rw [if_neg h7, if_neg h6, if_pos (.inr (.inr h5)), HEe.out, if_pos rfl])
      have k7 : (p.s.k == 7) = false := beq_false_of_ne h7
      have k6 : (p.s.k == 6) = false := beq_false_of_ne h6
      have k2 : (p.s.k == 2) = false := beq_false_of_ne h2
      have k4 : (p.s.k == 4) = false := beq_false_of_ne h4
      have k5 : (p.s.k == 5) = true := by rw [h5]; rfl
      clear h7 h6 h2 h4 h5 HH
      go_enter Tryz.func65, Tryz.ntmps65
      go_upto_region 1 with (fail)
      obtain ⟨wB, hwB⟩ : ∃ wB, (w.alloc (.cells #[.int .i64 L, .slice ar row.length cr] 106)).alloc (.cells #[.int .i64 p.s.n, .int .i64 p.s.k, .int .i64 p.s.v, .int .i64 p.s.c, .int .i64 p.s.d, .int .i64 p.s.rk, .int .i64 p.s.up, .int .i64 p.s.dn, .slice ad p.s.cv.length cp, .int .i64 p.d, .int .i64 p.u, .bool p.b] 82) = wB := ⟨_, rfl⟩
      have hb : Below w.heap.size w wB := by rw [← hwB]; exact ((Below.refl _ _).alloc (Nat.le_refl _) _).alloc (by simp) _
      have i0 : wB.cell? ⟨w.heap.size, 0, none⟩ = some (.int .i64 L) := by rw [← hwB]; simp [go_sem]
      have i1 : wB.cell? ⟨w.heap.size, 1, none⟩ = some (.slice ar row.length cr) := by rw [← hwB]; simp [go_sem]
      have x0 : wB.cell? ⟨w.heap.size + 1, 0, none⟩ = some (.int .i64 p.s.n) := by rw [← hwB]; simp [go_sem]
      have x1 : wB.cell? ⟨w.heap.size + 1, 1, none⟩ = some (.int .i64 p.s.k) := by rw [← hwB]; simp [go_sem]
      have x2 : wB.cell? ⟨w.heap.size + 1, 2, none⟩ = some (.int .i64 p.s.v) := by rw [← hwB]; simp [go_sem]
      have x3 : wB.cell? ⟨w.heap.size + 1, 3, none⟩ = some (.int .i64 p.s.c) := by rw [← hwB]; simp [go_sem]
      have x4 : wB.cell? ⟨w.heap.size + 1, 4, none⟩ = some (.int .i64 p.s.d) := by rw [← hwB]; simp [go_sem]
      have x5 : wB.cell? ⟨w.heap.size + 1, 5, none⟩ = some (.int .i64 p.s.rk) := by rw [← hwB]; simp [go_sem]
      have x6 : wB.cell? ⟨w.heap.size + 1, 6, none⟩ = some (.int .i64 p.s.up) := by rw [← hwB]; simp [go_sem]
      have x7 : wB.cell? ⟨w.heap.size + 1, 7, none⟩ = some (.int .i64 p.s.dn) := by rw [← hwB]; simp [go_sem]
      have x8 : wB.cell? ⟨w.heap.size + 1, 8, none⟩ = some (.slice ad p.s.cv.length cp) := by rw [← hwB]; simp [go_sem]
      have x9 : wB.cell? ⟨w.heap.size + 1, 9, none⟩ = some (.int .i64 p.d) := by rw [← hwB]; simp [go_sem]
      have x10 : wB.cell? ⟨w.heap.size + 1, 10, none⟩ = some (.int .i64 p.u) := by rw [← hwB]; simp [go_sem]
      have x11 : wB.cell? ⟨w.heap.size + 1, 11, none⟩ = some (.bool p.b) := by rw [← hwB]; simp [go_sem]
      rw [hwB]
      clear hwB
      go_wp2_with (go_at_call 99; refine (HE.out _ (wB.heap.size) ((hb.alloc hb.size _)) (by have := ex_ints2 wB; exact this)).mono ?_; rintro e w2 ⟨rfl, hb2⟩)
      go_ret
      exact ⟨by rw [hv.out] <;> rfl, (hb.alloc hb.size _).trans (hb2.mono (hb.alloc hb.size _).size)⟩
    | false =>
      have hv : Hid (codP L row p = 3) := Lib.hid (by unfold codP; rw [if_neg h7, if_neg h6, if_pos (.inr (.inr h5)), HEe.out, if_neg (by simp)])
      have k7 : (p.s.k == 7) = false := beq_false_of_ne h7
      have k6 : (p.s.k == 6) = false := beq_false_of_ne h6
      have k2 : (p.s.k == 2) = false := beq_false_of_ne h2
      have k4 : (p.s.k == 4) = false := beq_false_of_ne h4
      have k5 : (p.s.k == 5) = true := by rw [h5]; rfl
      clear h7 h6 h2 h4 h5 HH
      go_enter Tryz.func65, Tryz.ntmps65
      go_upto_region 1 with (fail)
      obtain ⟨wB, hwB⟩ : ∃ wB, (w.alloc (.cells #[.int .i64 L, .slice ar row.length cr] 106)).alloc (.cells #[.int .i64 p.s.n, .int .i64 p.s.k, .int .i64 p.s.v, .int .i64 p.s.c, .int .i64 p.s.d, .int .i64 p.s.rk, .int .i64 p.s.up, .int .i64 p.s.dn, .slice ad p.s.cv.length cp, .int .i64 p.d, .int .i64 p.u, .bool p.b] 82) = wB := ⟨_, rfl⟩
      have hb : Below w.heap.size w wB := by rw [← hwB]; exact ((Below.refl _ _).alloc (Nat.le_refl _) _).alloc (by simp) _
      have i0 : wB.cell? ⟨w.heap.size, 0, none⟩ = some (.int .i64 L) := by rw [← hwB]; simp [go_sem]
      have i1 : wB.cell? ⟨w.heap.size, 1, none⟩ = some (.slice ar row.length cr) := by rw [← hwB]; simp [go_sem]
      have x0 : wB.cell? ⟨w.heap.size + 1, 0, none⟩ = some (.int .i64 p.s.n) := by rw [← hwB]; simp [go_sem]
      have x1 : wB.cell? ⟨w.heap.size + 1, 1, none⟩ = some (.int .i64 p.s.k) := by rw [← hwB]; simp [go_sem]
      have x2 : wB.cell? ⟨w.heap.size + 1, 2, none⟩ = some (.int .i64 p.s.v) := by rw [← hwB]; simp [go_sem]
      have x3 : wB.cell? ⟨w.heap.size + 1, 3, none⟩ = some (.int .i64 p.s.c) := by rw [← hwB]; simp [go_sem]
      have x4 : wB.cell? ⟨w.heap.size + 1, 4, none⟩ = some (.int .i64 p.s.d) := by rw [← hwB]; simp [go_sem]
      have x5 : wB.cell? ⟨w.heap.size + 1, 5, none⟩ = some (.int .i64 p.s.rk) := by rw [← hwB]; simp [go_sem]
      have x6 : wB.cell? ⟨w.heap.size + 1, 6, none⟩ = some (.int .i64 p.s.up) := by rw [← hwB]; simp [go_sem]
      have x7 : wB.cell? ⟨w.heap.size + 1, 7, none⟩ = some (.int .i64 p.s.dn) := by rw [← hwB]; simp [go_sem]
      have x8 : wB.cell? ⟨w.heap.size + 1, 8, none⟩ = some (.slice ad p.s.cv.length cp) := by rw [← hwB]; simp [go_sem]
      have x9 : wB.cell? ⟨w.heap.size + 1, 9, none⟩ = some (.int .i64 p.d) := by rw [← hwB]; simp [go_sem]
      have x10 : wB.cell? ⟨w.heap.size + 1, 10, none⟩ = some (.int .i64 p.u) := by rw [← hwB]; simp [go_sem]
      have x11 : wB.cell? ⟨w.heap.size + 1, 11, none⟩ = some (.bool p.b) := by rw [← hwB]; simp [go_sem]
      rw [hwB]
      clear hwB
      go_wp2_with (go_at_call 99; refine (HE.out _ (wB.heap.size) ((hb.alloc hb.size _)) (by have := ex_ints2 wB; exact this)).mono ?_; rintro e w2 ⟨rfl, hb2⟩)
      go_ret
      exact ⟨by rw [hv.out] <;> rfl, (hb.alloc hb.size _).trans (hb2.mono (hb.alloc hb.size _).size)⟩
  by_cases h1 : p.s.k = 1
  · have k7 : (p.s.k == 7) = false := beq_false_of_ne h7
    have k6 : (p.s.k == 6) = false := beq_false_of_ne h6
    have k2 : (p.s.k == 2) = false := beq_false_of_ne h2
    have k4 : (p.s.k == 4) = false := beq_false_of_ne h4
    have k5 : (p.s.k == 5) = false := beq_false_of_ne h5
    have k1 : (p.s.k == 1) = true := by rw [h1]; rfl
    by_cases hdl : p.d = L
    · have hv : Hid (codP L row p = 4) := Lib.hid (by unfold codP; rw [if_neg h7, if_neg h6, if_neg (by omega), if_pos (.inl h1), if_pos hdl])
      have dd : (p.d == L) = true := by rw [hdl]; simp
      clear hdl HH HE h7 h6 h2 h4 h5 h1
      go_enter Tryz.func65, Tryz.ntmps65
      go_upto_region 1 with (fail)
      obtain ⟨wB, hwB⟩ : ∃ wB, (w.alloc (.cells #[.int .i64 L, .slice ar row.length cr] 106)).alloc (.cells #[.int .i64 p.s.n, .int .i64 p.s.k, .int .i64 p.s.v, .int .i64 p.s.c, .int .i64 p.s.d, .int .i64 p.s.rk, .int .i64 p.s.up, .int .i64 p.s.dn, .slice ad p.s.cv.length cp, .int .i64 p.d, .int .i64 p.u, .bool p.b] 82) = wB := ⟨_, rfl⟩
      have hb : Below w.heap.size w wB := by rw [← hwB]; exact ((Below.refl _ _).alloc (Nat.le_refl _) _).alloc (by simp) _
      have i0 : wB.cell? ⟨w.heap.size, 0, none⟩ = some (.int .i64 L) := by rw [← hwB]; simp [go_sem]
      have i1 : wB.cell? ⟨w.heap.size, 1, none⟩ = some (.slice ar row.length cr) := by rw [← hwB]; simp [go_sem]
      have x0 : wB.cell? ⟨w.heap.size + 1, 0, none⟩ = some (.int .i64 p.s.n) := by rw [← hwB]; simp [go_sem]
      have x1 : wB.cell? ⟨w.heap.size + 1, 1, none⟩ = some (.int .i64 p.s.k) := by rw [← hwB]; simp [go_sem]
      have x2 : wB.cell? ⟨w.heap.size + 1, 2, none⟩ = some (.int .i64 p.s.v) := by rw [← hwB]; simp [go_sem]
      have x3 : wB.cell? ⟨w.heap.size + 1, 3, none⟩ = some (.int .i64 p.s.c) := by rw [← hwB]; simp [go_sem]
      have x4 : wB.cell? ⟨w.heap.size + 1, 4, none⟩ = some (.int .i64 p.s.d) := by rw [← hwB]; simp [go_sem]
      have x5 : wB.cell? ⟨w.heap.size + 1, 5, none⟩ = some (.int .i64 p.s.rk) := by rw [← hwB]; simp [go_sem]
      have x6 : wB.cell? ⟨w.heap.size + 1, 6, none⟩ = some (.int .i64 p.s.up) := by rw [← hwB]; simp [go_sem]
      have x7 : wB.cell? ⟨w.heap.size + 1, 7, none⟩ = some (.int .i64 p.s.dn) := by rw [← hwB]; simp [go_sem]
      have x8 : wB.cell? ⟨w.heap.size + 1, 8, none⟩ = some (.slice ad p.s.cv.length cp) := by rw [← hwB]; simp [go_sem]
      have x9 : wB.cell? ⟨w.heap.size + 1, 9, none⟩ = some (.int .i64 p.d) := by rw [← hwB]; simp [go_sem]
      have x10 : wB.cell? ⟨w.heap.size + 1, 10, none⟩ = some (.int .i64 p.u) := by rw [← hwB]; simp [go_sem]
      have x11 : wB.cell? ⟨w.heap.size + 1, 11, none⟩ = some (.bool p.b) := by rw [← hwB]; simp [go_sem]
      rw [hwB]
      clear hwB
      go_wp2_with fail
      go_ret
      exact ⟨by rw [hv.out] <;> rfl, hb⟩
    · have hv : Hid (codP L row p = 0) := Lib.hid (by unfold codP; rw [if_neg h7, if_neg h6, if_neg (by omega), if_pos (.inl h1), if_neg hdl])
      have dd : (p.d == L) = false := beq_false_of_ne hdl
      clear hdl HH HE h7 h6 h2 h4 h5 h1
      go_enter Tryz.func65, Tryz.ntmps65
      go_upto_region 1 with (fail)
      obtain ⟨wB, hwB⟩ : ∃ wB, (w.alloc (.cells #[.int .i64 L, .slice ar row.length cr] 106)).alloc (.cells #[.int .i64 p.s.n, .int .i64 p.s.k, .int .i64 p.s.v, .int .i64 p.s.c, .int .i64 p.s.d, .int .i64 p.s.rk, .int .i64 p.s.up, .int .i64 p.s.dn, .slice ad p.s.cv.length cp, .int .i64 p.d, .int .i64 p.u, .bool p.b] 82) = wB := ⟨_, rfl⟩
      have hb : Below w.heap.size w wB := by rw [← hwB]; exact ((Below.refl _ _).alloc (Nat.le_refl _) _).alloc (by simp) _
      have i0 : wB.cell? ⟨w.heap.size, 0, none⟩ = some (.int .i64 L) := by rw [← hwB]; simp [go_sem]
      have i1 : wB.cell? ⟨w.heap.size, 1, none⟩ = some (.slice ar row.length cr) := by rw [← hwB]; simp [go_sem]
      have x0 : wB.cell? ⟨w.heap.size + 1, 0, none⟩ = some (.int .i64 p.s.n) := by rw [← hwB]; simp [go_sem]
      have x1 : wB.cell? ⟨w.heap.size + 1, 1, none⟩ = some (.int .i64 p.s.k) := by rw [← hwB]; simp [go_sem]
      have x2 : wB.cell? ⟨w.heap.size + 1, 2, none⟩ = some (.int .i64 p.s.v) := by rw [← hwB]; simp [go_sem]
      have x3 : wB.cell? ⟨w.heap.size + 1, 3, none⟩ = some (.int .i64 p.s.c) := by rw [← hwB]; simp [go_sem]
      have x4 : wB.cell? ⟨w.heap.size + 1, 4, none⟩ = some (.int .i64 p.s.d) := by rw [← hwB]; simp [go_sem]
      have x5 : wB.cell? ⟨w.heap.size + 1, 5, none⟩ = some (.int .i64 p.s.rk) := by rw [← hwB]; simp [go_sem]
      have x6 : wB.cell? ⟨w.heap.size + 1, 6, none⟩ = some (.int .i64 p.s.up) := by rw [← hwB]; simp [go_sem]
      have x7 : wB.cell? ⟨w.heap.size + 1, 7, none⟩ = some (.int .i64 p.s.dn) := by rw [← hwB]; simp [go_sem]
      have x8 : wB.cell? ⟨w.heap.size + 1, 8, none⟩ = some (.slice ad p.s.cv.length cp) := by rw [← hwB]; simp [go_sem]
      have x9 : wB.cell? ⟨w.heap.size + 1, 9, none⟩ = some (.int .i64 p.d) := by rw [← hwB]; simp [go_sem]
      have x10 : wB.cell? ⟨w.heap.size + 1, 10, none⟩ = some (.int .i64 p.u) := by rw [← hwB]; simp [go_sem]
      have x11 : wB.cell? ⟨w.heap.size + 1, 11, none⟩ = some (.bool p.b) := by rw [← hwB]; simp [go_sem]
      rw [hwB]
      clear hwB
      go_wp2_with fail
      go_ret
      exact ⟨by rw [hv.out] <;> rfl, hb⟩
  by_cases h3 : p.s.k = 3
  · have k7 : (p.s.k == 7) = false := beq_false_of_ne h7
    have k6 : (p.s.k == 6) = false := beq_false_of_ne h6
    have k2 : (p.s.k == 2) = false := beq_false_of_ne h2
    have k4 : (p.s.k == 4) = false := beq_false_of_ne h4
    have k5 : (p.s.k == 5) = false := beq_false_of_ne h5
    have k1 : (p.s.k == 1) = false := beq_false_of_ne h1
    have k3 : (p.s.k == 3) = true := by rw [h3]; rfl
    by_cases hdl : p.d = L
    · have hv : Hid (codP L row p = 4) := Lib.hid (by unfold codP; rw [if_neg h7, if_neg h6, if_neg (by omega), if_pos (.inr h3), if_pos hdl])
      have dd : (p.d == L) = true := by rw [hdl]; simp
      clear hdl HH HE h7 h6 h2 h4 h5 h1 h3
      go_enter Tryz.func65, Tryz.ntmps65
      go_upto_region 1 with (fail)
      obtain ⟨wB, hwB⟩ : ∃ wB, (w.alloc (.cells #[.int .i64 L, .slice ar row.length cr] 106)).alloc (.cells #[.int .i64 p.s.n, .int .i64 p.s.k, .int .i64 p.s.v, .int .i64 p.s.c, .int .i64 p.s.d, .int .i64 p.s.rk, .int .i64 p.s.up, .int .i64 p.s.dn, .slice ad p.s.cv.length cp, .int .i64 p.d, .int .i64 p.u, .bool p.b] 82) = wB := ⟨_, rfl⟩
      have hb : Below w.heap.size w wB := by rw [← hwB]; exact ((Below.refl _ _).alloc (Nat.le_refl _) _).alloc (by simp) _
      have i0 : wB.cell? ⟨w.heap.size, 0, none⟩ = some (.int .i64 L) := by rw [← hwB]; simp [go_sem]
      have i1 : wB.cell? ⟨w.heap.size, 1, none⟩ = some (.slice ar row.length cr) := by rw [← hwB]; simp [go_sem]
      have x0 : wB.cell? ⟨w.heap.size + 1, 0, none⟩ = some (.int .i64 p.s.n) := by rw [← hwB]; simp [go_sem]
      have x1 : wB.cell? ⟨w.heap.size + 1, 1, none⟩ = some (.int .i64 p.s.k) := by rw [← hwB]; simp [go_sem]
      have x2 : wB.cell? ⟨w.heap.size + 1, 2, none⟩ = some (.int .i64 p.s.v) := by rw [← hwB]; simp [go_sem]
      have x3 : wB.cell? ⟨w.heap.size + 1, 3, none⟩ = some (.int .i64 p.s.c) := by rw [← hwB]; simp [go_sem]
      have x4 : wB.cell? ⟨w.heap.size + 1, 4, none⟩ = some (.int .i64 p.s.d) := by rw [← hwB]; simp [go_sem]
      have x5 : wB.cell? ⟨w.heap.size + 1, 5, none⟩ = some (.int .i64 p.s.rk) := by rw [← hwB]; simp [go_sem]
      have x6 : wB.cell? ⟨w.heap.size + 1, 6, none⟩ = some (.int .i64 p.s.up) := by rw [← hwB]; simp [go_sem]
      have x7 : wB.cell? ⟨w.heap.size + 1, 7, none⟩ = some (.int .i64 p.s.dn) := by rw [← hwB]; simp [go_sem]
      have x8 : wB.cell? ⟨w.heap.size + 1, 8, none⟩ = some (.slice ad p.s.cv.length cp) := by rw [← hwB]; simp [go_sem]
      have x9 : wB.cell? ⟨w.heap.size + 1, 9, none⟩ = some (.int .i64 p.d) := by rw [← hwB]; simp [go_sem]
      have x10 : wB.cell? ⟨w.heap.size + 1, 10, none⟩ = some (.int .i64 p.u) := by rw [← hwB]; simp [go_sem]
      have x11 : wB.cell? ⟨w.heap.size + 1, 11, none⟩ = some (.bool p.b) := by rw [← hwB]; simp [go_sem]
      rw [hwB]
      clear hwB
      go_wp2_with fail
      go_ret
      exact ⟨by rw [hv.out] <;> rfl, hb⟩
    · have hv : Hid (codP L row p = 0) := Lib.hid (by unfold codP; rw [if_neg h7, if_neg h6, if_neg (by omega), if_pos (.inr h3), if_neg hdl])
      have dd : (p.d == L) = false := beq_false_of_ne hdl
      clear hdl HH HE h7 h6 h2 h4 h5 h1 h3
      go_enter Tryz.func65, Tryz.ntmps65
      go_upto_region 1 with (fail)
      obtain ⟨wB, hwB⟩ : ∃ wB, (w.alloc (.cells #[.int .i64 L, .slice ar row.length cr] 106)).alloc (.cells #[.int .i64 p.s.n, .int .i64 p.s.k, .int .i64 p.s.v, .int .i64 p.s.c, .int .i64 p.s.d, .int .i64 p.s.rk, .int .i64 p.s.up, .int .i64 p.s.dn, .slice ad p.s.cv.length cp, .int .i64 p.d, .int .i64 p.u, .bool p.b] 82) = wB := ⟨_, rfl⟩
      have hb : Below w.heap.size w wB := by rw [← hwB]; exact ((Below.refl _ _).alloc (Nat.le_refl _) _).alloc (by simp) _
      have i0 : wB.cell? ⟨w.heap.size, 0, none⟩ = some (.int .i64 L) := by rw [← hwB]; simp [go_sem]
      have i1 : wB.cell? ⟨w.heap.size, 1, none⟩ = some (.slice ar row.length cr) := by rw [← hwB]; simp [go_sem]
      have x0 : wB.cell? ⟨w.heap.size + 1, 0, none⟩ = some (.int .i64 p.s.n) := by rw [← hwB]; simp [go_sem]
      have x1 : wB.cell? ⟨w.heap.size + 1, 1, none⟩ = some (.int .i64 p.s.k) := by rw [← hwB]; simp [go_sem]
      have x2 : wB.cell? ⟨w.heap.size + 1, 2, none⟩ = some (.int .i64 p.s.v) := by rw [← hwB]; simp [go_sem]
      have x3 : wB.cell? ⟨w.heap.size + 1, 3, none⟩ = some (.int .i64 p.s.c) := by rw [← hwB]; simp [go_sem]
      have x4 : wB.cell? ⟨w.heap.size + 1, 4, none⟩ = some (.int .i64 p.s.d) := by rw [← hwB]; simp [go_sem]
      have x5 : wB.cell? ⟨w.heap.size + 1, 5, none⟩ = some (.int .i64 p.s.rk) := by rw [← hwB]; simp [go_sem]
      have x6 : wB.cell? ⟨w.heap.size + 1, 6, none⟩ = some (.int .i64 p.s.up) := by rw [← hwB]; simp [go_sem]
      have x7 : wB.cell? ⟨w.heap.size + 1, 7, none⟩ = some (.int .i64 p.s.dn) := by rw [← hwB]; simp [go_sem]
      have x8 : wB.cell? ⟨w.heap.size + 1, 8, none⟩ = some (.slice ad p.s.cv.length cp) := by rw [← hwB]; simp [go_sem]
      have x9 : wB.cell? ⟨w.heap.size + 1, 9, none⟩ = some (.int .i64 p.d) := by rw [← hwB]; simp [go_sem]
      have x10 : wB.cell? ⟨w.heap.size + 1, 10, none⟩ = some (.int .i64 p.u) := by rw [← hwB]; simp [go_sem]
      have x11 : wB.cell? ⟨w.heap.size + 1, 11, none⟩ = some (.bool p.b) := by rw [← hwB]; simp [go_sem]
      rw [hwB]
      clear hwB
      go_wp2_with fail
      go_ret
      exact ⟨by rw [hv.out] <;> rfl, hb⟩
  have hv : Hid (codP L row p = 0) := Lib.hid (by unfold codP; rw [if_neg h7, if_neg h6, if_neg (by omega), if_neg (by omega)])
  have k7 : (p.s.k == 7) = false := beq_false_of_ne h7
  have k6 : (p.s.k == 6) = false := beq_false_of_ne h6
  have k2 : (p.s.k == 2) = false := beq_false_of_ne h2
  have k4 : (p.s.k == 4) = false := beq_false_of_ne h4
  have k5 : (p.s.k == 5) = false := beq_false_of_ne h5
  have k1 : (p.s.k == 1) = false := beq_false_of_ne h1
  have k3 : (p.s.k == 3) = false := beq_false_of_ne h3
  clear h7 h6 h2 h4 h5 h1 h3 HH HE
  go_enter Tryz.func65, Tryz.ntmps65
  go_upto_region 1 with (fail)
  obtain ⟨wB, hwB⟩ : ∃ wB, (w.alloc (.cells #[.int .i64 L, .slice ar row.length cr] 106)).alloc (.cells #[.int .i64 p.s.n, .int .i64 p.s.k, .int .i64 p.s.v, .int .i64 p.s.c, .int .i64 p.s.d, .int .i64 p.s.rk, .int .i64 p.s.up, .int .i64 p.s.dn, .slice ad p.s.cv.length cp, .int .i64 p.d, .int .i64 p.u, .bool p.b] 82) = wB := ⟨_, rfl⟩
  have hb : Below w.heap.size w wB := by rw [← hwB]; exact ((Below.refl _ _).alloc (Nat.le_refl _) _).alloc (by simp) _
  have i0 : wB.cell? ⟨w.heap.size, 0, none⟩ = some (.int .i64 L) := by rw [← hwB]; simp [go_sem]
  have i1 : wB.cell? ⟨w.heap.size, 1, none⟩ = some (.slice ar row.length cr) := by rw [← hwB]; simp [go_sem]
  have x0 : wB.cell? ⟨w.heap.size + 1, 0, none⟩ = some (.int .i64 p.s.n) := by rw [← hwB]; simp [go_sem]
  have x1 : wB.cell? ⟨w.heap.size + 1, 1, none⟩ = some (.int .i64 p.s.k) := by rw [← hwB]; simp [go_sem]
  have x2 : wB.cell? ⟨w.heap.size + 1, 2, none⟩ = some (.int .i64 p.s.v) := by rw [← hwB]; simp [go_sem]
  have x3 : wB.cell? ⟨w.heap.size + 1, 3, none⟩ = some (.int .i64 p.s.c) := by rw [← hwB]; simp [go_sem]
  have x4 : wB.cell? ⟨w.heap.size + 1, 4, none⟩ = some (.int .i64 p.s.d) := by rw [← hwB]; simp [go_sem]
  have x5 : wB.cell? ⟨w.heap.size + 1, 5, none⟩ = some (.int .i64 p.s.rk) := by rw [← hwB]; simp [go_sem]
  have x6 : wB.cell? ⟨w.heap.size + 1, 6, none⟩ = some (.int .i64 p.s.up) := by rw [← hwB]; simp [go_sem]
  have x7 : wB.cell? ⟨w.heap.size + 1, 7, none⟩ = some (.int .i64 p.s.dn) := by rw [← hwB]; simp [go_sem]
  have x8 : wB.cell? ⟨w.heap.size + 1, 8, none⟩ = some (.slice ad p.s.cv.length cp) := by rw [← hwB]; simp [go_sem]
  have x9 : wB.cell? ⟨w.heap.size + 1, 9, none⟩ = some (.int .i64 p.d) := by rw [← hwB]; simp [go_sem]
  have x10 : wB.cell? ⟨w.heap.size + 1, 10, none⟩ = some (.int .i64 p.u) := by rw [← hwB]; simp [go_sem]
  have x11 : wB.cell? ⟨w.heap.size + 1, 11, none⟩ = some (.bool p.b) := by rw [← hwB]; simp [go_sem]
  rw [hwB]
  clear hwB
  go_wp2_with fail
  go_ret
  exact ⟨by rw [hv.out] <;> rfl, hb⟩
end Go.Proofs.YtiagflackfkmnaaGreat

namespace Go.Proofs
open Go.Shelf
def Tryz.laysSortF_ren : Go.Shelf.Ren := ⟨fun | 6 => 66 | 15 => 101 | 14 => 100 | 28 => 131 | 29 => 132 | 20 => 123 | 21 => 124 | 22 => 125 | 23 => 126 | 24 => 127 | 25 => 128 | 26 => 129 | 27 => 130 | 46 => 152 | 47 => 153 | 48 => 154 | 49 => 155 | 50 => 156 | 57 => 162 | n => n, fun | 22 => 54 | 24 => 111 | 25 => 112 | 3 => 3 | 39 => 67 | 0 => 0 | 53 => 66 | 55 => 168 | 4 => 4 | 46 => 160 | 45 => 159 | 50 => 164 | 5 => 5 | 9 => 9 | 66 => 178 | 70 => 182 | 76 => 188 | 77 => 189 | n => n, fun | n => n⟩
theorem Tryz.laysSortF : Go.Proofs.SlLaysF0.n6 Tryz.prog Tryz.laysSortF_ren := {
  mixed := by kernel_rfl
  f6 := ⟨Tryz.f66.name, by decide, Tryz.func66.trans (congrArg some (by kernel_rfl))⟩
  f14 := ⟨Tryz.f100.name, by decide, Tryz.func100.trans (congrArg some (by kernel_rfl))⟩
  f15 := Tryz.func101.trans (congrArg some (by kernel_rfl))
  f20 := ⟨Tryz.f123.name, by decide, Tryz.func123.trans (congrArg some (by kernel_rfl))⟩
  f21 := ⟨Tryz.f124.name, by decide, Tryz.func124.trans (congrArg some (by kernel_rfl))⟩
  f22 := ⟨Tryz.f125.name, by decide, Tryz.func125.trans (congrArg some (by kernel_rfl))⟩
  f23 := ⟨Tryz.f126.name, by decide, Tryz.func126.trans (congrArg some (by kernel_rfl))⟩
  f24 := ⟨Tryz.f127.name, by decide, Tryz.func127.trans (congrArg some (by kernel_rfl))⟩
  f25 := ⟨Tryz.f128.name, by decide, Tryz.func128.trans (congrArg some (by kernel_rfl))⟩
  f26 := ⟨Tryz.f129.name, by decide, Tryz.func129.trans (congrArg some (by kernel_rfl))⟩
  f27 := ⟨Tryz.f130.name, by decide, Tryz.func130.trans (congrArg some (by kernel_rfl))⟩
  f28 := Tryz.func131.trans (congrArg some (by kernel_rfl))
  f29 := Tryz.func132.trans (congrArg some (by kernel_rfl))
  f46 := ⟨Tryz.f152.name, by decide, Tryz.func152.trans (congrArg some (by kernel_rfl))⟩
  f47 := Tryz.func153.trans (congrArg some (by kernel_rfl))
  f48 := Tryz.func154.trans (congrArg some (by kernel_rfl))
  f49 := ⟨Tryz.f155.name, by decide, Tryz.func155.trans (congrArg some (by kernel_rfl))⟩
  f50 := ⟨Tryz.f156.name, by decide, Tryz.func156.trans (congrArg some (by kernel_rfl))⟩
  f57 := ⟨Tryz.f162.name, by decide, Tryz.func162.trans (congrArg some (by kernel_rfl))⟩
  t0 := Tryz.underlying0
  a0 := Tryz.isAgg0
  z0 := Tryz.sizeOf0
  v0 := Tryz.zeroValue0
  t3 := Tryz.underlying3
  a3 := Tryz.isAgg3
  z3 := Tryz.sizeOf3
  v3 := Tryz.zeroValue3
  t4 := Tryz.underlying4
  a4 := Tryz.isAgg4
  z4 := Tryz.sizeOf4
  v4 := Tryz.zeroValue4
  t5 := Tryz.underlying5
  a5 := Tryz.isAgg5
  z5 := Tryz.sizeOf5
  v5 := Tryz.zeroValue5
  t9 := Tryz.underlying9
  a9 := Tryz.isAgg9
  z9 := Tryz.sizeOf9
  v9 := Tryz.zeroValue9
  t22 := Tryz.underlying54
  a22 := Tryz.isAgg54
  z22 := Tryz.sizeOf54
  v22 := Tryz.zeroValue54
  t25 := Tryz.underlying112
  a25 := Tryz.isAgg112
  z25 := Tryz.sizeOf112
  v25 := Tryz.zeroValue112
  t39 := Tryz.underlying67
  a39 := Tryz.isAgg67
  z39 := Tryz.sizeOf67
  v39 := Tryz.zeroValue67
  t45 := Tryz.underlying159
  a45 := Tryz.isAgg159
  z45 := Tryz.sizeOf159
  v45 := Tryz.zeroValue159
  t46 := Tryz.underlying160
  a46 := Tryz.isAgg160
  z46 := Tryz.sizeOf160
  v46 := Tryz.zeroValue160
  t50 := Tryz.underlying164
  a50 := Tryz.isAgg164
  z50 := Tryz.sizeOf164
  v50 := Tryz.zeroValue164
  t53 := Tryz.underlying66
  a53 := Tryz.isAgg66
  z53 := Tryz.sizeOf66
  v53 := Tryz.zeroValue66
  t55 := Tryz.underlying168
  a55 := Tryz.isAgg168
  z55 := Tryz.sizeOf168
  v55 := Tryz.zeroValue168
  t66 := Tryz.underlying178
  a66 := Tryz.isAgg178
  z66 := Tryz.sizeOf178
  v66 := Tryz.zeroValue178
  t70 := Tryz.underlying182
  a70 := Tryz.isAgg182
  z70 := Tryz.sizeOf182
  v70 := Tryz.zeroValue182
  t76 := Tryz.underlying188
  a76 := Tryz.isAgg188
  z76 := Tryz.sizeOf188
  v76 := Tryz.zeroValue188
  t77 := Tryz.underlying189
  a77 := Tryz.isAgg189
  z77 := Tryz.sizeOf189
  v77 := Tryz.zeroValue189 }
end Go.Proofs

namespace Go.Proofs.YtiagflackfkmnaaGreat
set_option linter.unusedVariables false
set_option linter.unusedSimpArgs false
open Go.RowKit

abbrev Flt := Int × Int
theorem infoF : (Tryz.prog.info? 111).map (fun i => (i.zero, i.size, i.bytes)) = some (some (.agg #[.int .i64 0, .int .i64 0]), 2, 16) := by kernel_rfl
def enc2 (x : Flt) : List Value := [.int .i64 x.1, .int .i64 x.2]
theorem enc2_len (x : Flt) : (enc2 x).length = 2 := rfl
theorem enc2_one (x : Flt) : ∀ v ∈ enc2 x, v.oneCell' = true := by
  intro v hv
  simp [enc2] at hv
  rcases hv with rfl | rfl <;> rfl
def cl2 (l : List Flt) : List Value := l.flatMap enc2
theorem cl2_app (l m : List Flt) : cl2 (l ++ m) = cl2 l ++ cl2 m := by simp [cl2]
theorem cl2_one (l : List Flt) : ∀ v ∈ cl2 l, v.oneCell' = true := by
  intro v hv
  obtain ⟨x, -, hx⟩ := List.mem_flatMap.1 hv
  exact enc2_one x v hx
theorem cl2_len (l : List Flt) : (cl2 l).length = l.length * 2 := by
  induction l with
  | nil => rfl
  | cons p l ih => unfold cl2 at *; rw [List.flatMap_cons, List.length_append, ih, enc2_len]; simp; omega
theorem cl2_c : ∀ (s : List Flt) (i : Nat), i < s.length → (cl2 s)[i * 2]? = some (.int .i64 (gp s i).1) ∧ (cl2 s)[i * 2 + 1]? = some (.int .i64 (gp s i).2)
  | [], i, h => by simp at h
  | p :: s, 0, _ => ⟨rfl, rfl⟩
  | p :: s, i + 1, h => by
    obtain ⟨h1, h2⟩ := cl2_c s i (by simpa using h)
    have e : cl2 (p :: s) = enc2 p ++ cl2 s := rfl
    rw [e, List.getElem?_append_right (by rw [enc2_len]; omega), List.getElem?_append_right (by rw [enc2_len]; omega), enc2_len, show (i + 1) * 2 - 2 = i * 2 by omega, show (i + 1) * 2 + 1 - 2 = i * 2 + 1 by omega]
    exact ⟨h1, h2⟩
theorem cl2_get : ∀ (l : List Flt) (j : Nat), j < l.length * 2 → (cl2 l)[j]? = some ((enc2 l[j / 2]!)[j % 2]!)
  | [], j, h => by simp at h
  | p :: l, j, h => by
    unfold cl2
    rw [List.flatMap_cons]
    by_cases h1 : j < 2
    · rw [List.getElem?_append_left (by rw [enc2_len]; exact h1), show j / 2 = 0 by omega, show j % 2 = j by omega]
      have hl : j < (enc2 p).length := h1
      rw [List.getElem?_eq_getElem hl, getElem!_pos _ j hl]
      rfl
    · have ih := cl2_get l (j - 2) (by simp at h; omega)
      unfold cl2 at ih
      rw [List.getElem?_append_right (by rw [enc2_len]; omega), enc2_len, ih, show j / 2 = (j - 2) / 2 + 1 by omega, show j % 2 = (j - 2) % 2 by omega]
      rfl
theorem pairs_own2 {w : World} {base c : Nat} {a : Option Addr} {zs : List Flt} {T : TypeId} (h : w.ownsRow base T 2 (.slice a zs.length c) zs.length (cl2 zs)) (hn : zs.length ≤ 9223372036854775807) (hf : ∀ j, j < zs.length → I64 (gp zs j).1 ∧ I64 (gp zs j).2) : PairsS w a zs := by
  refine ⟨hn, hf, ?_⟩
  rcases h.2 with ⟨h1, h2⟩ | ⟨g2, c2, cur, h1, _⟩
  · exact ⟨0, 0, (fun hne => absurd (List.eq_nil_of_length_eq_zero h2) hne), fun i hi => by omega⟩
  · obtain ⟨rfl, rfl⟩ : a = some ⟨g2, 0, none⟩ ∧ c = c2 := by simpa using h1
    refine ⟨g2, 0, fun _ => rfl, fun i hi => ?_⟩
    obtain ⟨c0, c1⟩ := cl2_c zs i hi
    rw [Nat.zero_add]
    exact ⟨by rw [World.ownsRow.cellAt h (i * 2) (by omega)]; exact c0, by rw [World.ownsRow.cellAt h (i * 2 + 1) (by omega)]; exact c1⟩
/-- The faults of the first k signs of a row. -/
def fltK (L : Int) (row : List Pst) : Nat → List Flt
  | 0 => []
  | k + 1 => if codP L row (gq row k) = 0 then fltK L row k else fltK L row k ++ [((gq row k).s.n, codP L row (gq row k))]
theorem fltK_len (L : Int) (row : List Pst) : ∀ k, (fltK L row k).length ≤ k
  | 0 => Nat.le_refl _
  | k + 1 => by
    have := fltK_len L row k
    rw [fltK]; split
    · omega
    · simp; omega
theorem codP_bd (L : Int) (row : List Pst) (p : Pst) : 0 ≤ codP L row p ∧ codP L row p ≤ 4 := by
  unfold codP; split
  · split <;> omega
  · split
    · split <;> omega
    · split
      · split <;> omega
      · split
        · split <;> omega
        · omega
theorem fltK_mem {L : Int} {row : List Pst} {x : Flt} : ∀ {k}, x ∈ fltK L row k → ∃ i, i < k ∧ x = ((gq row i).s.n, codP L row (gq row i))
  | 0, h => by cases h
  | k + 1, h => by
    rw [fltK] at h
    split at h
    · obtain ⟨i, hi, e⟩ := fltK_mem h; exact ⟨i, by omega, e⟩
    · rw [List.mem_append, List.mem_singleton] at h
      rcases h with h | h
      · obtain ⟨i, hi, e⟩ := fltK_mem h; exact ⟨i, by omega, e⟩
      · exact ⟨k, by omega, h⟩
/-- What faulty returns. -/
def FltE (M : List Flt) (w : World) (e : Ending) (w' : World) : Prop := ∃ b c, e = .returned (.slice b M.length c) ∧ w'.ownsRow w.heap.size 111 2 (.slice b M.length c) M.length (cl2 M) ∧ Below w.heap.size w w'
set_option maxRecDepth 100000 in
set_option maxHeartbeats 4000000 in
theorem faulty_r (L : Int) (ar : Option Addr) (row : List Pst) (cr : Nat) (hL : 0 ≤ L ∧ L ≤ 100000) (hd : ∀ i, i < row.length → (-100000 ≤ (gq row i).d ∧ (gq row i).d ≤ 100000) ∧ -100000 ≤ (gq row i).s.v ∧ (gq row i).s.v ≤ 100000) (hn : row.length ≤ 1000) (w : World) (hR : PstS w ar row) :
    Calls Tryz.prog 64 #[.slice ar row.length cr, .func (.func 65) #[.agg #[.int .i64 L, .slice ar row.length cr]] #[]] w (FltE (fltK L row row.length) w) := by
  have HCd := Lib.hid (fun p ad cp W (hdp : -100000 ≤ p.d ∧ p.d ≤ 100000) (hvp : -100000 ≤ p.s.v ∧ p.s.v ≤ 100000) (hW : Below w.heap.size w W) => code_r L ar row cr p ad cp hL hdp hvp W (hR.below hW))
  obtain ⟨-, pb, po, pad, pcp, hpa, hpc⟩ := hR
  have HPC := Lib.hid hpc
  have HPA : Hid (0 < row.length → ar = some ⟨pb, po, none⟩) := Lib.hid fun h => hpa (List.ne_nil_of_length_pos h)
  have HD := Lib.hid hd
  have HLen := Lib.hid (fltK_len L row)
  have HStep : Hid (∀ k, fltK L row (k + 1) = if codP L row (gq row k) = 0 then fltK L row k else fltK L row k ++ [((gq row k).s.n, codP L row (gq row k))]) := Lib.hid fun k => rfl
  have HM0 : Hid (fltK L row 0 = []) := Lib.hid rfl
  obtain ⟨n0, hi, hz0, hz1, hz2⟩ := info_parts infoF
  generalize fltK L row = MM at *
  clear hpa hpc hd
  go_enter Tryz.func64, Tryz.ntmps64
  go_wp2_with fail
  go_loopw [5, 11] (fun v i9 wr => ∃ k : Nat, k ≤ row.length ∧ i9 = .int .i64 k ∧ (∃ a c, v = .slice a (MM k).length c) ∧ Hid (wr.ownsRow w.heap.size 111 2 v (MM k).length (cl2 (MM k))) ∧ Below w.heap.size w wr) (fun _ i9 _ => row.length - (intOf i9).toNat)
  case atStart => exact ⟨0, Nat.zero_le _, rfl, ⟨none, 0, by rw [HM0.out]; rfl⟩, Lib.hid (by rw [HM0.out]; exact ⟨rfl, .inl ⟨rfl, rfl⟩⟩), Below.refl _ _⟩
  case round =>
    obtain ⟨k, hk, rfl, ⟨av, cv, rfl⟩, HRow, hbr⟩ := hrel
    have hkl := HLen.out k
    by_cases hlt : k < row.length
    · obtain rfl := HPA.out (by omega)
      obtain ⟨⟨⟨c0, c1, c2, c3, c4, c5, c6, c7⟩, c8, c9, c10, c11⟩, -⟩ := HPC.out k hlt
      have c0 := cell_below c0 hbr
      have c1 := cell_below c1 hbr
      have c2 := cell_below c2 hbr
      have c3 := cell_below c3 hbr
      have c4 := cell_below c4 hbr
      have c5 := cell_below c5 hbr
      have c6 := cell_below c6 hbr
      have c7 := cell_below c7 hbr
      have c8 := cell_below c8 hbr
      have c9 := cell_below c9 hbr
      have c10 := cell_below c10 hbr
      have c11 := cell_below c11 hbr
      have hdk := HD.out k hlt
      have HCk := Lib.hid (fun W (hW : Below w.heap.size w W) => HCd.out (gq row k) (pad k) (pcp k) W hdk.1 hdk.2 hW)
      have HN := Lib.hid (HStep.out k)
      have hsr := hbr.size
      clear HPC HPA HD HCd HStep HLen HM0 hdk
      generalize codP L row (gq row k) = CD at *
      generalize pad k = adk at *
      generalize pcp k = cpk at *
      obtain ⟨x, hx⟩ : ∃ x, gq row k = x := ⟨_, rfl⟩
      rw [hx] at HN HCk c0 c1 c2 c3 c4 c5 c6 c7 c8 c9 c10 c11
      clear hx
      obtain ⟨S, hS⟩ : ∃ S, MM k = S := ⟨_, rfl⟩
      rw [hS] at HN HRow hkl ⊢
      clear hS
      go_upto_region 5 with (fail)
      obtain ⟨wq, hwq⟩ : ∃ wq, wr.alloc (.cells #[.int .i64 x.s.n, .int .i64 x.s.k, .int .i64 x.s.v, .int .i64 x.s.c, .int .i64 x.s.d, .int .i64 x.s.rk, .int .i64 x.s.up, .int .i64 x.s.dn, .slice adk x.s.cv.length cpk, .int .i64 x.d, .int .i64 x.u, .bool x.b] 82) = wq := ⟨_, rfl⟩
      have hbq0 : Below wr.heap.size wr wq := by rw [← hwq]; exact (Below.refl _ _).alloc (Nat.le_refl _) _
      have x0 : wq.cell? ⟨wr.heap.size, 0, none⟩ = some (.int .i64 x.s.n) := by rw [← hwq]; simp [go_sem]
      have x1 : wq.cell? ⟨wr.heap.size, 1, none⟩ = some (.int .i64 x.s.k) := by rw [← hwq]; simp [go_sem]
      have x2 : wq.cell? ⟨wr.heap.size, 2, none⟩ = some (.int .i64 x.s.v) := by rw [← hwq]; simp [go_sem]
      have x3 : wq.cell? ⟨wr.heap.size, 3, none⟩ = some (.int .i64 x.s.c) := by rw [← hwq]; simp [go_sem]
      have x4 : wq.cell? ⟨wr.heap.size, 4, none⟩ = some (.int .i64 x.s.d) := by rw [← hwq]; simp [go_sem]
      have x5 : wq.cell? ⟨wr.heap.size, 5, none⟩ = some (.int .i64 x.s.rk) := by rw [← hwq]; simp [go_sem]
      have x6 : wq.cell? ⟨wr.heap.size, 6, none⟩ = some (.int .i64 x.s.up) := by rw [← hwq]; simp [go_sem]
      have x7 : wq.cell? ⟨wr.heap.size, 7, none⟩ = some (.int .i64 x.s.dn) := by rw [← hwq]; simp [go_sem]
      have x8 : wq.cell? ⟨wr.heap.size, 8, none⟩ = some (.slice adk x.s.cv.length cpk) := by rw [← hwq]; simp [go_sem]
      have x9 : wq.cell? ⟨wr.heap.size, 9, none⟩ = some (.int .i64 x.d) := by rw [← hwq]; simp [go_sem]
      have x10 : wq.cell? ⟨wr.heap.size, 10, none⟩ = some (.int .i64 x.u) := by rw [← hwq]; simp [go_sem]
      have x11 : wq.cell? ⟨wr.heap.size, 11, none⟩ = some (.bool x.b) := by rw [← hwq]; simp [go_sem]
      rw [hwq]
      clear hwq c0 c1 c2 c3 c4 c5 c6 c7 c8 c9 c10 c11
      have hbq := hbr.trans (hbq0.mono hsr)
      have HRow := Lib.hid (owns_belowI HRow.out hbq0)
      have HCq := Lib.hid (HCk.out wq hbq)
      clear HCk hbq0
      by_cases h0 : CD = 0
      · have d0 : (CD != 0) = false := by rw [h0]; rfl
        have HE : Hid (MM (k + 1) = S) := Lib.hid (by rw [HN.out, if_pos h0])
        clear HN h0
        go_wp2_with (go_at_call 65; refine HCq.out.mono ?_; rintro e w3 ⟨rfl, hb3⟩)
        go_roundw
        case rel => exact ⟨k + 1, by omega, by go_num, ⟨av, cv, by rw [HE.out]⟩, Lib.hid (by rw [HE.out]; exact owns_belowI HRow.out hb3), hbq.trans (hb3.mono hbq.size)⟩
        case measure => simp [intOf]; omega
      · have d0 : (CD != 0) = true := by simp [h0]
        have HE : Hid (S.length + 1 = (MM (k + 1)).length ∧ cl2 S ++ [.int .i64 x.s.n, .int .i64 CD] = cl2 (MM (k + 1))) := Lib.hid (by rw [HN.out, if_neg h0, cl2_app]; exact ⟨by simp, rfl⟩)
        clear HN h0
        have hzx := block_lt x0
        go_wp2_with (first | (go_at_call 65; refine HCq.out.mono ?_; rintro e w3 ⟨rfl, hb3⟩; have x0 := cell_below x0 hb3; have hOW0 := Lib.hid ((owns_belowI HRow.out hb3).alloc (.cells #[.int .i64 x.s.n, .int .i64 CD] 111)); have hb3w := hbq.trans (hb3.mono hbq.size); have hs3 := hb3w.size) | (at_builtin; go_loud (refine wpList_append_lies _ rfl _ _ 54 rfl w.heap.size 111 n0 _ 2 16 Tryz.underlying54 hi hz0 hz1 hz2 rfl (by decide) (.slice av S.length cv) S.length _ (by rfl) hOW0.out ⟨w3.heap.size, 0, none⟩ 1 1 [.int .i64 x.s.n, .int .i64 CD] (by rfl) (by rfl) ?d1 ?d2 (by decide) ?d3 ?d4 ?d5 _ rfl ?_)))
        case d1 =>
          refine World.news_of_block (cs := #[.int .i64 x.s.n, .int .i64 CD]) (t := 111) (fr := (0, 0)) ?_
          exact heap_alloc_new _ _
        case d2 => simp [Value.oneCell']
        case d3 => unfold maxLen; omega
        case d4 => omega
        case d5 => first | (simp; omega) | simp | omega
        intro g6 c6 w6 hown6 hgrow6 hat6 hlt6
        have hb6 : Below w.heap.size w w6 := (hb3w.alloc hs3 _).grown hgrow6 (by first | (simp; omega) | simp | omega) (fun z hz => owns_blockI hOW0.out hz)
        have HRow6 := Lib.hid hown6
        clear hown6 hOW0 hgrow6 hat6 hlt6
        go_wp2_with fail
        go_roundw
        case rel => exact ⟨k + 1, by omega, by go_num, ⟨_, c6, by rw [← HE.out.1]⟩, Lib.hid (by rw [← HE.out.1, ← HE.out.2]; exact HRow6.out), hb6⟩
        case measure => simp [intOf]; omega
    · obtain rfl : k = row.length := by omega
      have HEnd : Hid (FltE (MM row.length) w (.returned (.slice av (MM row.length).length cv)) wr) := Lib.hid ⟨av, cv, rfl, HRow.out, hbr⟩
      clear HRow HPC HPA HD HCd HStep HLen HM0
      go_wp2_with fail
      go_ret
      exact HEnd.out
theorem fnum_r (p : Flt) (w : World) : Calls Tryz.prog 68 #[.agg #[.int .i64 p.1, .int .i64 p.2]] w fun e w' => e = .returned (.int .i64 p.1) ∧ w' = w.alloc (.cells #[.int .i64 p.1, .int .i64 p.2] 111) := by
  go_enter Tryz.func68, Tryz.ntmps68
  go_wp2_with fail
  go_ret
  exact ⟨rfl, rfl⟩
set_option maxRecDepth 100000 in
set_option maxHeartbeats 4000000 in
theorem byF_r (p q : Flt) (B Fb : Nat) (w : World) (cB : w.cell? ⟨B, 0, none⟩ = some (.slice (some ⟨Fb, 0, none⟩) 1 1)) (f0 : w.cell? ⟨Fb, 0, none⟩ = some (.func (.func 68) #[] #[])) :
    Calls Tryz.prog 102 #[.agg #[.int .i64 p.1, .int .i64 p.2], .agg #[.int .i64 q.1, .int .i64 q.2], .pointer (some ⟨B, 0, none⟩)] w fun e w' => e = .returned (.int .i64 (Lib.compareInt p.1 q.1)) ∧ GrownW w w' := by
  have HC0 := Lib.hid (fun W => compare_r p.1 q.1 W)
  generalize hr : Lib.compareInt p.1 q.1 = r0 at *
  have HRc := Lib.hid hr
  clear hr
  have kk : ∀ (o : Nat) (v : Value) (b : Nat), w.cell? ⟨b, o, none⟩ = some v → ∀ c t c' t', ((w.alloc (.cells c t)).alloc (.cells c' t')).cell? ⟨b, o, none⟩ = some v := fun o v b h c t c' t' => cell_below h (((GrownW.refl w).alloc _).alloc _).below
  have kB := kk _ _ _ cB
  clear kk
  go_enter Tryz.func102, Tryz.ntmps102
  go_wp2_with fail
  obtain ⟨wB, hwB⟩ : ∃ wB, (w.alloc (.cells #[.int .i64 p.1, .int .i64 p.2] 111)).alloc (.cells #[.int .i64 q.1, .int .i64 q.2] 111) = wB := ⟨_, rfl⟩
  have hG : GrownW w wB := by rw [← hwB]; exact ((GrownW.refl w).alloc _).alloc _
  have hzB : w.heap.size + 1 < wB.heap.size := by rw [← hwB]; simp
  have cB := cell_below cB hG.below
  have f0 := cell_below f0 hG.below
  have s0 : wB.cell? ⟨w.heap.size, 0, none⟩ = some (.int .i64 p.1) := by rw [← hwB]; simp [go_sem]
  have s1 : wB.cell? ⟨w.heap.size, 1, none⟩ = some (.int .i64 p.2) := by rw [← hwB]; simp [go_sem]
  have s2 : wB.cell? ⟨w.heap.size + 1, 0, none⟩ = some (.int .i64 q.1) := by rw [← hwB]; simp [go_sem]
  have s3 : wB.cell? ⟨w.heap.size + 1, 1, none⟩ = some (.int .i64 q.2) := by rw [← hwB]; simp [go_sem]
  rw [hwB]
  clear hwB kB
  go_loopw [11] (fun i wr => ∃ k : Nat, k ≤ 1 ∧ i = .int .i64 k ∧ GrownW wB wr ∧ Hid (0 < k → r0 = 0)) (fun i _ => 1 - (intOf i).toNat)
  case atStart => exact ⟨0, by omega, rfl, GrownW.refl _, Lib.hid fun h => absurd h (by omega)⟩
  case round =>
    obtain ⟨k, hk, rfl, hGr, HA⟩ := hrel
    have hGb := hGr.below
    have hGw := hG.trans hGr
    have f0 := cell_below f0 hGb
    have hzr := Nat.lt_of_lt_of_le hzB hGb.size
    have s0 := cell_below s0 hGb
    have s1 := cell_below s1 hGb
    have s2 := cell_below s2 hGb
    have s3 := cell_below s3 hGb
    rcases (by omega : k = 0 ∨ k = 1) with rfl | rfl
    · go_wp2_with fail
      have hz1 : w.heap.size + 1 < wr.heap.size := hzr
      clear f0 cB hzB hGb
      go_region_held3 (fun w' => w'.cell? ⟨w.heap.size, 0, none⟩ = some (.int .i64 p.1) ∧ w'.cell? ⟨w.heap.size, 1, none⟩ = some (.int .i64 p.2) ∧ w'.cell? ⟨w.heap.size + 1, 0, none⟩ = some (.int .i64 q.1) ∧ w'.cell? ⟨w.heap.size + 1, 1, none⟩ = some (.int .i64 q.2)) (go_keep)
        (first
          | (go_at_call 68
             first | (with_reducible refine Calls.mono (fnum_r p _) ?_) | (with_reducible refine Calls.mono (fnum_r q _) ?_)
             rintro e w9 ⟨rfl, h9⟩
             have hG9 := GrownW.of_eq h9
             clear h9
             have hb9 := hG9.below
             have hz0 : w.heap.size < wr.heap.size := by omega
             have hzA := Nat.lt_of_lt_of_le hz1 hb9.size
             have s0 := (hb9.cell (p := ⟨w.heap.size, 0, none⟩) (Nat.lt_of_succ_lt hz1)).trans s0
             have s1 := (hb9.cell (p := ⟨w.heap.size, 1, none⟩) (Nat.lt_of_succ_lt hz1)).trans s1
             have s2 := (hb9.cell (p := ⟨w.heap.size + 1, 0, none⟩) hz1).trans s2
             have s3 := (hb9.cell (p := ⟨w.heap.size + 1, 1, none⟩) hz1).trans s3
             have hGr : GrownW wB w9 := by first | exact hGr.trans hG9 | exact hGr.drew.trans hG9
             have hz1 := hzA)
          | (go_at_call 103
             refine (HC0.out _).mono ?_
             rintro e w9 ⟨rfl, rfl⟩))
      all_goals
        by_cases h0 : r0 = 0
        · have HA2 : Hid (0 < 0 + 1 → r0 = 0) := Lib.hid fun _ => h0
          have b0 : (r0 == 0) = true := by rw [h0]; rfl
          clear HA h0
          go_wp2_with fail
          go_roundw
          case rel => exact ⟨0 + 1, by omega, by go_num, by first | exact hGr | exact hGr.drew, HA2⟩
          case measure => simp [intOf]
        · have b0 : (r0 == 0) = false := beq_false_of_ne h0
          clear HA
          go_wp2_with fail
          go_ret
          exact ⟨rfl, by first | exact hG.trans hGr | exact hG.trans hGr.drew⟩
    · have HR : Hid (r0 = 0) := Lib.hid (HA.out (by omega))
      clear HA
      go_wp2_with fail
      go_ret
      exact ⟨by rw [HR.out]; rfl, hGw⟩
theorem holdsF {w : World} {base g c : Nat} {l : List Flt} (h : w.ownsRow base 111 2 (.slice (some ⟨g, 0, none⟩) l.length c) l.length (cl2 l)) : Sort.HoldsK enc2 2 w g 0 l.toArray := by
  intro j hj
  rw [Sort.size_flatK] at hj
  have hj2 : j < l.length * 2 := by simpa using hj
  rw [Sort.get_flatK _ _ _ _ hj, Nat.zero_add, World.ownsRow.cellAt h j (by omega), cl2_get l j hj2]
  refine ⟨?_, World.ownsRow.frozenAt h j⟩
  have hd : j / 2 < l.length := by omega
  have e : l.toArray[j / 2]! = l[j / 2]! := by rw [getElem!_pos _ (j / 2) (by simpa using hd), getElem!_pos _ (j / 2) hd]; simp
  rw [e]; rfl
theorem ltF (x y : Flt) : ltOf (fun x y : Flt => Lib.compareInt x.1 y.1) x y = decide (Lib.compareInt x.1 y.1 < 0) := rfl
theorem swoF : Sort.SWO (ltOf fun x y : Flt => Lib.compareInt x.1 y.1) where
  irrefl x := by rw [ltF, decide_eq_false_iff_not, cmp_lt]; omega
  trans x y z h1 h2 := by rw [ltF, decide_eq_true_eq, cmp_lt] at *; omega
  ntrans x y z h1 h2 := by rw [ltF, decide_eq_false_iff_not, cmp_lt] at *; omega
/-- The faults, by their numbers. -/
def SrtF (base : Nat) (av : Option Addr) (R : List Flt) (w : World) (e : Ending) (w' : World) : Prop :=
  e = .returned (.tuple #[]) ∧ ∃ S : List Flt, S.Perm R ∧ (∀ i j, i < j → j < S.length → (gp S i).1 ≤ (gp S j).1) ∧ (∃ g, (S ≠ [] → av = some ⟨g, 0, none⟩) ∧ ∀ i, i < S.length → w'.cell? ⟨g, i * 2, none⟩ = some (.int .i64 (gp S i).1) ∧ w'.cell? ⟨g, i * 2 + 1, none⟩ = some (.int .i64 (gp S i).2)) ∧ Below base w w'
theorem cells_holdsF {w : World} {g : Nat} {d : Array Flt} (h : Sort.HoldsK enc2 2 w g 0 d) : ∀ i, i < d.toList.length → w.cell? ⟨g, i * 2, none⟩ = some (.int .i64 (gp d.toList i).1) ∧ w.cell? ⟨g, i * 2 + 1, none⟩ = some (.int .i64 (gp d.toList i).2) := fun i hi => by
  have hi2 : i < d.size := by simpa using hi
  have e : gp d.toList i = d[i]! := by unfold gp; rw [getElem!_pos d i hi2]; simp [hi2]
  have k := fun (o : Nat) (ho : o < 2) => (h (i * 2 + o) (by rw [Sort.size_flatK]; omega)).1
  have g := fun (o : Nat) (ho : o < 2) => Sort.get_flatK enc2 2 d (i * 2 + o) (by omega)
  have h0 := k 0 (by omega)
  have h1 := k 1 (by omega)
  rw [g 0 (by omega), Nat.zero_add, show (i * 2 + 0) / 2 = i by omega, show (i * 2 + 0) % 2 = 0 by omega] at h0
  rw [g 1 (by omega), Nat.zero_add, show (i * 2 + 1) / 2 = i by omega, show (i * 2 + 1) % 2 = 1 by omega] at h1
  rw [e]
  exact ⟨h0, h1⟩
theorem sortF_r (base B Fb cv : Nat) (av : Option Addr) (R : List Flt) (w : World) (h : w.ownsRow base 111 2 (.slice av R.length cv) R.length (cl2 R)) (hn : R.length ≤ 100000000) (cB : w.cell? ⟨B, 0, none⟩ = some (.slice (some ⟨Fb, 0, none⟩) 1 1)) (f0 : w.cell? ⟨Fb, 0, none⟩ = some (.func (.func 68) #[] #[])) (hB : ∀ g, av = some ⟨g, 0, none⟩ → B ≠ g ∧ Fb ≠ g) :
    Calls Tryz.prog 66 #[.slice av R.length cv, .func (.func 102) #[] #[.pointer (some ⟨B, 0, none⟩)]] w (SrtF base av R w) := by
  rcases h.2 with ⟨h1, h2⟩ | ⟨g, cap, cur, h1, hg, hg2, _⟩
  · have ha : av = none := by simpa using (Value.slice.inj h1).1
    have hR : R = [] := List.eq_nil_of_length_eq_zero h2
    subst ha; subst hR
    have := AnyF.slices_SortFunc_none Tryz.laysSortF none cv (.func (.func 102) #[] #[.pointer (some ⟨B, 0, none⟩)]) w
    change Calls Tryz.prog 66 _ _ _ at this
    refine this.mono ?_
    rintro e w' ⟨he, hw⟩
    exact ⟨he, [], List.Perm.refl _, (fun i j _ hj => absurd hj (Nat.not_lt_zero _)), ⟨0, fun h => (h rfl).elim, fun i hi => absurd hi (Nat.not_lt_zero i)⟩, (by rw [hw]; exact Below.refl _ _)⟩
  · obtain ⟨rfl, rfl⟩ : av = some ⟨g, 0, none⟩ ∧ cv = cap := by simpa using h1
    obtain ⟨b1, b2⟩ := hB g rfl
    have hg3 : g < w.heap.size := (Array.getElem?_eq_some_iff.1 hg2).1
    have eg : ∀ args w, (callFunc 102 args).run Tryz.prog w = .ok (.enter 102 args) w := enters_of Tryz.func102 (by kernel_rfl) rfl
    have hcmp : CmpLays Tryz.prog 102 #[.pointer (some ⟨B, 0, none⟩)] enc2 2 (fun x y : Flt => Lib.compareInt x.1 y.1) g 0 R.toArray.size w := fun m os dk _ x y => by
      have k := fun (b o : Nat) (v : Value) (hb : b ≠ g) (hv : w.cell? ⟨b, o, none⟩ = some v) => (cell?_sortWorldK_other enc2 2 w g 0 m dk os ⟨b, o, none⟩ hb (block_lt hv)).trans hv
      exact byF_r x y B Fb _ (k B 0 _ b1 cB) (k Fb 0 _ b2 f0)
    have hcon := AnyQ.slices_SortFunc Tryz.laysSortF 2 Tryz.isAgg111 Tryz.sizeOf111 enc2 enc2_len enc2_one (fun x y : Flt => Lib.compareInt x.1 y.1) swoF 102 #[.pointer (some ⟨B, 0, none⟩)] g 0 cv R.toArray w eg hcmp (holdsF h) hg3 (by simp; omega)
    change Calls Tryz.prog 66 _ _ _ at hcon
    rw [show R.toArray.size = R.length by simp] at hcon
    refine hcon.mono ?_
    rintro e w' ⟨he, d', n, os, ⟨hs, -, hp⟩, hso, rfl⟩
    have hs2 : d'.size = R.length := by simpa using hs
    refine ⟨he, d'.toList, ?_, ?_, ⟨g, fun _ => rfl, cells_holdsF (holdsK_sortWorldK enc2 2 w g 0 n R.toArray d' os hg3 (holdsF h) hs)⟩, ?_⟩
    · have e1 : (d'.extract 0 R.length).toList = d'.toList := by rw [← hs2]; simp
      have e2 : (R.toArray.extract 0 R.length).toList = R := by simp
      rw [e1, e2] at hp
      exact hp
    · intro i j hij hj
      have hj2 : j < d'.size := by simpa using hj
      have := hso i j (Nat.zero_le _) hij (by omega)
      rw [ltF, decide_eq_false_iff_not, cmp_lt] at this
      have e1 : gp d'.toList i = d'[i]! := by unfold gp; rw [getElem!_pos d' i (by omega)]; simp [show i < d'.size by omega]
      have e2 : gp d'.toList j = d'[j]! := by unfold gp; rw [getElem!_pos d' j hj2]; simp [hj2]
      rw [e1, e2]
      omega
    · have b1 : Below base w (Sort.putRowK enc2 2 (Sort.ahead w n) g 0 d') := Lib.below_putRow (Below.refl _ _) hg
      exact b1.trans (by
        have := Lib.below_grow base (Sort.putRowK enc2 2 (Sort.ahead w n) g 0 d') (by have := b1.size; omega) 0 os
        exact this)
theorem by0F_r (Fb : Nat) (w : World) : Calls Tryz.prog 67 #[.slice (some ⟨Fb, 0, none⟩) 1 1] w fun e w' => ∃ B, e = .returned (.func (.func 102) #[] #[.pointer (some ⟨B, 0, none⟩)]) ∧ w.heap.size ≤ B ∧ w'.cell? ⟨B, 0, none⟩ = some (.slice (some ⟨Fb, 0, none⟩) 1 1) ∧ Below w.heap.size w w' := by
  go_enter Tryz.func67, Tryz.ntmps67
  go_wp2_with fail
  go_ret
  exact ⟨w.heap.size, rfl, Nat.le_refl _, by simp [go_sem], (Below.refl _ _).alloc (Nat.le_refl _) _⟩
end Go.Proofs.YtiagflackfkmnaaGreat

namespace Go.Proofs.YtiagflackfkmnaaGreat
set_option linter.unusedVariables false
set_option linter.unusedSimpArgs false
open Go.RowKit

theorem cmp_spec (d : Array Int) (hs : ∀ i j, i ≤ j → j < d.size → d[i]! ≤ d[j]!) : ∀ m, m ≤ d.size → (Lib.compactUpTo d m).Pairwise (· < ·) ∧ ∀ x, x ∈ Lib.compactUpTo d m ↔ ∃ j, j < m ∧ d[j]! = x
  | 0, _ => ⟨by simp [Lib.compactUpTo], fun x => by simp [Lib.compactUpTo]⟩
  | m + 1, hm => by
    obtain ⟨h1, h2⟩ := cmp_spec d hs m (by omega)
    rw [Lib.compactUpTo_succ]
    by_cases hk : Lib.keeps d m = true
    · rw [if_pos hk]
      refine ⟨List.pairwise_append.2 ⟨h1, by simp, fun x hx y hy => ?_⟩, fun x => ?_⟩
      · obtain ⟨j, hj, e⟩ := (h2 x).1 hx
        rw [List.mem_singleton.1 hy, ← e]
        by_cases h0 : m = 0
        · omega
        · have h3 := hs j (m - 1) (by omega) (by omega)
          have h4 := hs (m - 1) m (by omega) (by omega)
          have h5 : d[m]! ≠ d[m - 1]! := by
            intro e2
            unfold Lib.keeps at hk
            simp [h0, e2] at hk
          omega
      · rw [List.mem_append, h2, List.mem_singleton]
        constructor
        · rintro (⟨j, hj, e⟩ | e)
          · exact ⟨j, by omega, e⟩
          · exact ⟨m, by omega, e.symm⟩
        · rintro ⟨j, hj, e⟩
          by_cases hjm : j = m
          · right; rw [← e, hjm]
          · left; exact ⟨j, by omega, e⟩
    · rw [if_neg hk, List.append_nil]
      refine ⟨h1, fun x => ?_⟩
      rw [h2]
      have h0 : m ≠ 0 := by rintro rfl; exact hk (by simp [Lib.keeps])
      have h5 : d[m]! = d[m - 1]! := by
        by_cases e : d[m]! = d[m - 1]!
        · exact e
        · exact absurd (by unfold Lib.keeps; simp [h0, e]) hk
      constructor
      · rintro ⟨j, hj, e⟩; exact ⟨j, by omega, e⟩
      · rintro ⟨j, hj, e⟩
        by_cases hjm : j = m
        · exact ⟨m - 1, by omega, by rw [← e, hjm, h5]⟩
        · exact ⟨j, by omega, e⟩
theorem srt_pw (zs : List Int) : (srt zs).Pairwise (· ≤ ·) := by
  have := List.pairwise_mergeSort (le := fun x y : Int => decide (x ≤ y)) (fun a b c h1 h2 => by simp only [decide_eq_true_eq] at *; omega) (fun a b => by simp only [Bool.or_eq_true, decide_eq_true_eq]; omega) zs
  exact this.imp (fun h => by simpa using h)
theorem cmp_sorted {zs : List Int} (h : zs.Pairwise (· ≤ ·)) : (Lib.compact zs).Pairwise (· < ·) ∧ ∀ x, x ∈ Lib.compact zs ↔ x ∈ zs := by
  have hs : ∀ i j, i ≤ j → j < zs.toArray.size → zs.toArray[i]! ≤ zs.toArray[j]! := fun i j hij hj => by
    have hj' : j < zs.length := by simpa using hj
    rw [List.getElem!_toArray, List.getElem!_toArray, getElem!_pos zs i (by omega), getElem!_pos zs j hj']
    by_cases e : i = j
    · subst e; exact Int.le_refl _
    · exact (List.pairwise_iff_getElem.1 h) i j (by omega) hj' (by omega)
  obtain ⟨h1, h2⟩ := cmp_spec zs.toArray hs zs.length (by simp)
  refine ⟨h1, fun x => ?_⟩
  show x ∈ Lib.compactUpTo _ _ ↔ _
  rw [h2]
  constructor
  · rintro ⟨j, hj, e⟩
    rw [List.getElem!_toArray, getElem!_pos zs j hj] at e
    rw [← e]; exact List.getElem_mem hj
  · intro hx
    obtain ⟨j, hj, e⟩ := List.getElem_of_mem hx
    exact ⟨j, hj, by rw [List.getElem!_toArray, getElem!_pos zs j hj]; exact e⟩
theorem asc_pw (cuts : List Int) : (ascL cuts).Pairwise (· < ·) := (cmp_sorted (srt_pw cuts)).1
theorem asc_iff (cuts : List Int) (x : Int) : x ∈ ascL cuts ↔ x ∈ cuts := ((cmp_sorted (srt_pw cuts)).2 x).trans (srt_perm cuts).mem_iff

section
variable {V : Type} [DecidableEq V] [Inhabited V]
def gtV (l : List (Int × Int × V)) (i : Nat) : Int × Int × V := l.getD i (0, 0, default)
def prt1V (acc : List (Int × Int × V)) (x y : Int) (v : V) : List (Int × Int × V) := if 0 < acc.length ∧ (gtV acc (acc.length - 1)).2.2 = v then acc.set (acc.length - 1) ((gtV acc (acc.length - 1)).1, y, v) else acc ++ [(x, y, v)]
def prtV (z : List Int) (f : Int → V) : Nat → List (Int × Int × V)
  | 0 => []
  | k + 1 => if k = 0 then [] else prt1V (prtV z f k) (gi z (k - 1)) (gi z k) (f (gi z (k - 1)))
/-- One metre more, where some values are of no account. -/
def st1V (sk : V → Bool) (acc : List (Int × Int × V)) (m : Int) (v : V) : List (Int × Int × V) :=
  if sk v = true then acc else if 0 < acc.length ∧ (gtV acc (acc.length - 1)).2.1 = m ∧ (gtV acc (acc.length - 1)).2.2 = v then acc.set (acc.length - 1) ((gtV acc (acc.length - 1)).1, m + 1, v) else acc ++ [(m, m + 1, v)]
def strV (sk : V → Bool) (f : Int → V) : Nat → List (Int × Int × V)
  | 0 => []
  | n + 1 => st1V sk (strV sk f n) n (f n)
omit [DecidableEq V] in
theorem gtV_snoc (pre : List (Int × Int × V)) (q : Int × Int × V) : gtV (pre ++ [q]) ((pre ++ [q]).length - 1) = q := by
  unfold gtV; simp
theorem set_snoc {α : Type} (pre : List α) (q r : α) : (pre ++ [q]).set ((pre ++ [q]).length - 1) r = pre ++ [r] := by
  rw [List.length_append, List.length_singleton, Nat.add_sub_cancel, List.set_append_right _ _ (Nat.le_refl _)]
  simp
theorem prt1V_snoc (pre : List (Int × Int × V)) (x y0 a b : Int) (u v : V) : prt1V (pre ++ [(x, y0, u)]) a b v = if u = v then pre ++ [(x, b, v)] else pre ++ [(x, y0, u)] ++ [(a, b, v)] := by
  unfold prt1V
  rw [gtV_snoc, set_snoc]
  by_cases h : u = v
  · rw [if_pos ⟨by simp, h⟩, if_pos h]
  · rw [if_neg (fun hh => h hh.2), if_neg h]
theorem strV_skip {sk : V → Bool} {f : Int → V} {v : V} (hv : sk v = true) (a : Nat) : ∀ n, (∀ i : Nat, a ≤ i → i < a + n → f i = v) → strV sk f (a + n) = strV sk f a
  | 0, _ => rfl
  | n + 1, h => by
    rw [← Nat.add_assoc, strV, h (a + n) (by omega) (by omega)]
    unfold st1V
    rw [if_pos hv]
    exact strV_skip hv a n (fun i h1 h2 => h i h1 (by omega))
theorem strV_more {sk : V → Bool} {f : Int → V} {v : V} (hv : sk v = false) (a : Nat) (pre : List (Int × Int × V)) (x : Int) (hS : strV sk f a = pre ++ [(x, (a : Int), v)]) : ∀ n, (∀ i : Nat, a ≤ i → i < a + n → f i = v) → strV sk f (a + n) = pre ++ [(x, ((a + n : Nat) : Int), v)]
  | 0, _ => hS
  | n + 1, h => by
    have ih := strV_more hv a pre x hS n (fun i h1 h2 => h i h1 (by omega))
    rw [← Nat.add_assoc, strV, h (a + n) (by omega) (by omega), ih]
    unfold st1V
    rw [if_neg (by rw [hv]; simp), gtV_snoc, set_snoc, if_pos ⟨by simp, rfl, rfl⟩]
    simp
theorem strV_new {sk : V → Bool} {f : Int → V} {v : V} (hv : sk v = false) (a : Nat) (hS : ¬ (0 < (strV sk f a).length ∧ (gtV (strV sk f a) ((strV sk f a).length - 1)).2.1 = a ∧ (gtV (strV sk f a) ((strV sk f a).length - 1)).2.2 = v)) (n : Nat) (h : ∀ i : Nat, a ≤ i → i < a + (n + 1) → f i = v) : strV sk f (a + (n + 1)) = strV sk f a ++ [((a : Int), ((a + (n + 1) : Nat) : Int), v)] := by
  have h1 : strV sk f (a + 1) = strV sk f a ++ [((a : Int), ((a + 1 : Nat) : Int), v)] := by
    rw [strV, h a (Nat.le_refl _) (by omega)]
    unfold st1V
    rw [if_neg (by rw [hv]; simp), if_neg hS]
    simp
  have h2 := strV_more hv (a + 1) (strV sk f a) (a : Int) h1 n (fun i h1 h2 => h i (by omega) (by omega))
  rw [show a + 1 + n = a + (n + 1) by omega] at h2
  exact h2
def fltV (sk : V → Bool) (acc : List (Int × Int × V)) : List (Int × Int × V) := acc.filter fun p => !(sk p.2.2)
omit [DecidableEq V] [Inhabited V] in
theorem fltV_snoc (sk : V → Bool) (pre : List (Int × Int × V)) (q : Int × Int × V) : fltV sk (pre ++ [q]) = fltV sk pre ++ if sk q.2.2 = true then [] else [q] := by
  unfold fltV
  rw [List.filter_append]
  cases h : sk q.2.2 <;> simp [List.filter_cons, h]
/-- What the two ways agree on, up to a cut. -/
def InvV (sk : V → Bool) (f : Int → V) (acc : List (Int × Int × V)) (a : Nat) : Prop :=
  strV sk f a = fltV sk acc ∧ ((acc = [] ∧ a = 0) ∨ ∃ pre x u, acc = pre ++ [(x, (a : Int), u)] ∧ x < (a : Int) ∧ ∀ p, p ∈ pre → p.2.1 ≤ x)
theorem invV_step {sk : V → Bool} {f : Int → V} {acc : List (Int × Int × V)} {a b : Nat} (hab : a < b) (hc : ∀ i : Nat, a ≤ i → i < b → f i = f a) (h : InvV sk f acc a) : InvV sk f (prt1V acc a b (f a)) b := by
  obtain ⟨n, rfl⟩ : ∃ n, b = a + (n + 1) := ⟨b - a - 1, by omega⟩
  generalize f a = v at *
  obtain ⟨h1, h2⟩ := h
  rcases h2 with ⟨rfl, rfl⟩ | ⟨pre, x, u, rfl, hx, hp⟩
  · have e : prt1V ([] : List (Int × Int × V)) ((0 : Nat) : Int) ((0 + (n + 1) : Nat) : Int) v = [] ++ [(((0 : Nat) : Int), ((0 + (n + 1) : Nat) : Int), v)] := by unfold prt1V; simp
    rw [e]
    refine ⟨?_, .inr ⟨[], _, v, rfl, by omega, fun p hp => by cases hp⟩⟩
    rw [fltV_snoc]
    cases hv : sk v with
    | true => rw [strV_skip hv 0 (n + 1) hc, if_pos rfl]; rfl
    | false => rw [strV_new hv 0 (fun hh => absurd hh.1 (by simp [strV])) n hc, if_neg (by simp)]; rfl
  · rw [prt1V_snoc]
    rw [fltV_snoc] at h1
    by_cases huv : u = v
    · subst huv
      rw [if_pos rfl]
      refine ⟨?_, .inr ⟨pre, x, u, rfl, by omega, hp⟩⟩
      rw [fltV_snoc]
      cases hv : sk u with
      | true =>
        rw [if_pos hv] at h1
        rw [strV_skip hv a (n + 1) hc, h1, if_pos rfl]
      | false =>
        rw [if_neg (by rw [hv]; simp)] at h1
        rw [strV_more hv a _ x h1 (n + 1) hc, if_neg (by simp)]
    · rw [if_neg huv]
      refine ⟨?_, .inr ⟨pre ++ [(x, (a : Int), u)], a, v, rfl, by omega, fun p hpm => ?_⟩⟩
      · rw [fltV_snoc, fltV_snoc, ← h1]
        cases hv : sk v with
        | true => rw [strV_skip hv a (n + 1) hc, if_pos rfl, List.append_nil]
        | false =>
          rw [strV_new hv a ?_ n hc, if_neg (by simp)]
          rw [h1]
          rintro ⟨g1, g2, g3⟩
          cases hu : sk u with
          | false =>
            rw [hu, if_neg (by simp), gtV_snoc] at g3
            exact huv g3
          | true =>
            rw [hu, if_pos rfl, List.append_nil] at g1 g2
            have hm : gtV (fltV sk pre) ((fltV sk pre).length - 1) ∈ fltV sk pre := by
              unfold gtV
              rw [List.getD_eq_getElem?_getD, List.getElem?_eq_getElem (by omega)]
              exact List.getElem_mem _
            have := hp _ (List.mem_filter.1 hm).1
            omega
      · rw [List.mem_append, List.mem_singleton] at hpm
        rcases hpm with hpm | rfl
        · have := hp p hpm; omega
        · exact Int.le_refl _
theorem parts_str {sk : V → Bool} {f : Int → V} {z : List Int} (hz : z.Pairwise (· < ·)) (h0 : 0 < z.length → gi z 0 = 0) (hc : ∀ k, k + 1 < z.length → ∀ i : Int, gi z k ≤ i → i < gi z (k + 1) → f i = f (gi z k)) : ∀ k, k < z.length → InvV sk f (prtV z f (k + 1)) (gi z k).toNat
  | 0, hk => by
    rw [h0 hk]
    refine ⟨?_, .inl ⟨by rw [prtV, if_pos rfl], rfl⟩⟩
    rw [prtV, if_pos rfl]; rfl
  | k + 1, hk => by
    have ih := parts_str (sk := sk) hz h0 hc k (by omega)
    have hlt : ∀ i j, i < j → j < z.length → gi z i < gi z j := fun i j hij hj => by
      unfold gi
      rw [List.getD_eq_getElem?_getD, List.getD_eq_getElem?_getD, List.getElem?_eq_getElem (by omega), List.getElem?_eq_getElem hj]
      exact (List.pairwise_iff_getElem.1 hz) i j (by omega) hj hij
    have hpos : 0 ≤ gi z k := by
      by_cases e : k = 0
      · subst e; rw [h0 (by omega)]; exact Int.le_refl _
      · have := hlt 0 k (by omega) (by omega); rw [h0 (by omega)] at this; omega
    have hlk := hlt k (k + 1) (by omega) hk
    have e1 : ((gi z k).toNat : Int) = gi z k := Int.toNat_of_nonneg hpos
    have e2 : ((gi z (k + 1)).toNat : Int) = gi z (k + 1) := Int.toNat_of_nonneg (by omega)
    have st := invV_step (b := (gi z (k + 1)).toNat) (by omega) (fun i h1 h2 => by
      rw [e1]; exact hc k hk i (by omega) (by omega)) ih
    rw [e1, e2] at st
    rw [prtV, if_neg (by omega)]
    exact st
/-- Parts between cuts, those of no account left out, are the stretches metre by metre. -/
theorem parts_all {sk : V → Bool} {f : Int → V} {z : List Int} {L : Int} (hz : z.Pairwise (· < ·)) (h0 : gi z 0 = 0) (hL : gi z (z.length - 1) = L) (hne : 0 < z.length) (hc : ∀ k, k + 1 < z.length → ∀ i : Int, gi z k ≤ i → i < gi z (k + 1) → f i = f (gi z k)) : fltV sk (prtV z f z.length) = strV sk f L.toNat := by
  have := (parts_str (sk := sk) hz (fun _ => h0) hc (z.length - 1) (by omega)).1
  rw [hL, show z.length - 1 + 1 = z.length by omega] at this
  exact this.symm
end
theorem prtK_V (z : List Int) (f : Int → Int) : ∀ k, prtK z f k = prtV z f k
  | 0 => rfl
  | k + 1 => by
    rw [prtK, prtV, prtK_V z f k]; rfl
end Go.Proofs.YtiagflackfkmnaaGreat
