/-
  within, placeValid, jobValid, nightValid, fits of package night. By an AI agent.
-/
import Derived.Test.YtghlhjiomebmhaaLightA
import Derived.Test.YtghlhjiomebmhaaAnyK
import Derived.Deep.RegionHeld3
namespace Go.Proofs.Ytghlhjiomebmhaa
set_option linter.unusedVariables false
set_option linter.unusedSimpArgs false
open Go.RowKit

theorem pos_ne {n i : Nat} {α : Type} {l : List α} (hi : i < l.length) : l ≠ [] := by rintro rfl; simp at hi
theorem btw_casesN (n a b : Int) : btw n a b = true ∨ btw n a b = false := by cases btw n a b <;> simp
/-- A slice of ints, of whatever size. -/
def IntsC (w : World) (a : Option Addr) (l : List (Int)) : Prop :=
  l.length ≤ 9223372036854775807 ∧ ∃ blk off, (l ≠ [] → a = some ⟨blk, off, none⟩) ∧ ∀ i, i < l.length → w.cell? ⟨blk, off + i, none⟩ = some (.int .i64 (gi l i))
theorem IntsC.below {w w' : World} {a : Option Addr} {l : List (Int)} (h : IntsC w a l) (hb : Below w.heap.size w w') : IntsC w' a l := by
  obtain ⟨h0, blk, off, h2, h3⟩ := h
  exact ⟨h0, blk, off, h2, fun i hi => cell_below (h3 i hi) hb⟩
theorem within1_cl (x a b : Int) (pa pb : Nat) (w : World) (hA : w.cell? ⟨pa, 0, none⟩ = some (.int .i64 a)) (hB : w.cell? ⟨pb, 0, none⟩ = some (.int .i64 b)) :
    Calls Try.prog 59 (#[.int .i64 x] ++ #[.pointer (some ⟨pa, 0, none⟩), .pointer (some ⟨pb, 0, none⟩)]) w fun e w' => e = .returned (.bool (!(btw x a b))) ∧ Below w.heap.size w w' := by
  by_cases h1 : x < a
  · rw [btw_f (by omega)]
    go_enter Try.func59, Try.ntmps59
    go_wp2
    go_ret
    exact ⟨rfl, Below.refl _ _⟩
  · by_cases h2 : b < x
    · rw [btw_f (by omega)]
      go_enter Try.func59, Try.ntmps59
      go_wp2
      go_ret
      exact ⟨rfl, Below.refl _ _⟩
    · rw [btw_t (by omega) (by omega)]
      go_enter Try.func59, Try.ntmps59
      go_wp2
      go_ret
      exact ⟨rfl, Below.refl _ _⟩

set_option maxRecDepth 100000 in
set_option maxHeartbeats 1000000 in
theorem idxW_any (aa : Option Addr) (l : List (Int)) (ca : Nat) (lb : Array Value) (p : Nat → Bool) (w : World) (hA : IntsC w aa l)
    (hp : ∀ j W, j < l.length → Below w.heap.size w W → Calls Try.prog 59 (#[.int .i64 (gi l j)] ++ lb) W fun e w' => e = .returned (.bool (p j)) ∧ Below W.heap.size W w') :
    Calls Try.prog 71 #[.slice aa l.length ca, .func (.func 59) #[] lb] w fun e w' => e = .returned (.int .i64 (idxK p l.length)) ∧ Below w.heap.size w w' := by
  obtain ⟨hlen, blk, off, hadr, hc⟩ := hA
  have HP := Lib.hid hp
  have HC := Lib.hid hc
  have HH : Hid (∀ k, k < l.length → p k = true → (∀ j, j < k → p j = false) → idxK p l.length = k) := Lib.hid fun k hk h hb => idxK_hit h hb _ hk
  have HM : Hid ((∀ j, j < l.length → p j = false) → idxK p l.length = -1) := Lib.hid fun h => idxK_miss _ h
  have HL : Hid (0 < l.length → aa = some ⟨blk, off, none⟩) := Lib.hid fun h => hadr (pos_ne (n := 0) h)
  generalize idxK p l.length = R at *
  clear hp hc hadr
  go_enter Try.func71, Try.ntmps71
  go_wp2_with fail
  go_loopw [8] (fun i wr => ∃ k : Nat, k ≤ l.length ∧ i = .int .i64 k ∧ Below w.heap.size w wr ∧ Hid (∀ j, j < k → p j = false)) (fun i _ => l.length - (intOf i).toNat)
  case atStart => exact ⟨0, Nat.zero_le _, rfl, Below.refl _ _, Lib.hid fun j hj => absurd hj (Nat.not_lt_zero _)⟩
  case round =>
    obtain ⟨k, hk, rfl, hb, HA⟩ := hrel
    by_cases hlt : k < l.length
    · obtain rfl := HL.out (by omega)
      have c0 := cell_below (HC.out k hlt) hb
      have HK := Lib.hid (fun W => HP.out k W hlt)
      have HHk := Lib.hid (HH.out k hlt)
      have HN : Hid (p k = false → ∀ j, j < k + 1 → p j = false) := Lib.hid fun h j hj => by
        by_cases e : j = k
        · subst e; exact h
        · exact HA.out j (by omega)
      clear HP HC HM HL HH
      generalize (gi l k) = x0 at *
      cases hpk : p k with
      | true =>
        have HR := Lib.hid (HHk.out hpk HA.out)
        rw [hpk] at HK
        clear hpk HHk HN
        go_wp2_with fail
        refine (HK.out _ hb).mono ?_
        rintro e w1 ⟨rfl, hb1⟩
        go_wp2_with fail
        go_ret
        rw [HR.out]
        exact ⟨rfl, hb.trans (hb1.mono hb.size)⟩
      | false =>
        have HR := Lib.hid (HN.out hpk)
        rw [hpk] at HK
        clear hpk HHk HN
        go_wp2_with fail
        refine (HK.out _ hb).mono ?_
        rintro e w1 ⟨rfl, hb1⟩
        go_wp2_with fail
        go_roundw
        case rel => exact ⟨k + 1, by omega, by go_num, hb.trans (hb1.mono hb.size), HR⟩
        case measure => simp [intOf]; omega
    · obtain rfl : k = l.length := by omega
      have HR := Lib.hid (HM.out HA.out)
      go_wp2_with fail
      go_ret
      rw [HR.out]
      exact ⟨rfl, hb⟩

set_option maxRecDepth 100000 in
theorem containsW_any (aa : Option Addr) (l : List (Int)) (ca : Nat) (lb : Array Value) (p : Nat → Bool) (w : World) (hA : IntsC w aa l)
    (hp : ∀ j W, j < l.length → Below w.heap.size w W → Calls Try.prog 59 (#[.int .i64 (gi l j)] ++ lb) W fun e w' => e = .returned (.bool (p j)) ∧ Below W.heap.size W w') :
    Calls Try.prog 58 #[.slice aa l.length ca, .func (.func 59) #[] lb] w fun e w' => e = .returned (.bool (anyK p l.length)) ∧ Below w.heap.size w w' := by
  have H := Lib.hid (idxW_any aa l ca lb p w hA hp)
  have hq := Lib.hid (idxK_any p l.length)
  clear hp hA
  generalize idxK p l.length = R at *
  generalize anyK p l.length = B at *
  have hq := hq.out
  subst hq
  go_enter Try.func58, Try.ntmps58
  go_wp2_with fail
  refine H.out.mono ?_
  rintro e w1 ⟨rfl, hb1⟩
  go_wp2_with fail
  all_goals
    go_ret
    exact ⟨by simp_all, hb1⟩

/-- Whether all of a list lie from a to b. -/
def winB (a b : Int) (l : List Int) : Bool := l.all fun x => btw x a b
theorem winB_any (a b : Int) (l : List Int) : winB a b l = !(anyK (fun j => !(btw (gi l j) a b)) l.length) := by
  unfold winB
  cases h : anyK (fun j => !(btw (gi l j) a b)) l.length with
  | false =>
    rw [anyK_iff] at h
    rw [Bool.not_false, List.all_eq_true]
    intro x hx
    obtain ⟨k, hk, e⟩ := List.getElem_of_mem hx
    have := h k hk
    unfold gi at this
    rw [List.getD_eq_getElem?_getD, List.getElem?_eq_getElem hk, Option.getD_some, e] at this
    simpa using this
  | true =>
    rw [Bool.not_true, ← Bool.not_eq_true, List.all_eq_true]
    intro g
    rw [(anyK_iff _).2] at h
    · cases h
    · intro k hk
      have := g (gi l k) (by unfold gi; rw [List.getD_eq_getElem?_getD, List.getElem?_eq_getElem hk]; exact List.getElem_mem hk)
      simp [this]
set_option maxRecDepth 100000 in
theorem withinN_any (a b : Int) (ad : Option Addr) (l : List Int) (ca : Nat) (w : World) (hI : IntsC w ad l) :
    Calls Try.prog 35 #[.int .i64 a, .int .i64 b, .slice ad l.length ca] w fun e w' => e = .returned (.bool (winB a b l)) ∧ Below w.heap.size w w' := by
  obtain ⟨wB, hwB⟩ : ∃ wB, (w.alloc (.cells #[.int .i64 a] 3)).alloc (.cells #[.int .i64 b] 3) = wB := ⟨_, rfl⟩
  have hb : Below w.heap.size w wB := by rw [← hwB]; exact ((Below.refl _ _).alloc (Nat.le_refl _) _).alloc (by simp) _
  have p0 : wB.cell? ⟨w.heap.size, 0, none⟩ = some (.int .i64 a) := by rw [← hwB]; simp [go_sem]
  have p1 : wB.cell? ⟨w.heap.size + 1, 0, none⟩ = some (.int .i64 b) := by rw [← hwB]; simp [go_sem]
  have HC := Lib.hid (containsW_any ad l ca #[.pointer (some ⟨w.heap.size, 0, none⟩), .pointer (some ⟨w.heap.size + 1, 0, none⟩)] (fun j => !(btw (gi l j) a b)) wB (hI.below hb) fun j W hj hW => within1_cl _ a b _ _ W (cell_below p0 hW) (cell_below p1 hW))
  rw [winB_any]
  subst hwB
  clear p0 p1 hI
  generalize anyK (fun j => !(btw (gi l j) a b)) l.length = R at *
  go_enter Try.func35, Try.ntmps35
  go_wp2_with fail
  refine HC.out.mono ?_
  rintro e w1 ⟨rfl, hb1⟩
  go_wp2_with fail
  all_goals
    go_ret
    exact ⟨by simp_all, hb.trans (hb1.mono hb.size)⟩
theorem withinN0_any (a b : Int) (w : World) :
    Calls Try.prog 35 #[.int .i64 a, .int .i64 b, .slice none 0 0] w fun e w' => e = .returned (.bool true) ∧ Below w.heap.size w w' :=
  withinN_any a b none [] 0 w ⟨by simp, 0, 0, fun h => absurd rfl h, fun i hi => absurd hi (Nat.not_lt_zero _)⟩
theorem withinN1_any (a b x : Int) (blk : Nat) (w : World) (hx : w.cell? ⟨blk, 0, none⟩ = some (.int .i64 x)) :
    Calls Try.prog 35 #[.int .i64 a, .int .i64 b, .slice (some ⟨blk, 0, none⟩) 1 1] w fun e w' => e = .returned (.bool (btw x a b)) ∧ Below w.heap.size w w' := by
  have := withinN_any a b (some ⟨blk, 0, none⟩) [x] 1 w ⟨by simp, blk, 0, fun _ => rfl, fun i hi => by
    obtain rfl : i = 0 := by simpa using hi
    exact hx⟩
  simpa [winB] using this
theorem withinN2_any (a b x y : Int) (blk : Nat) (w : World) (hx : w.cell? ⟨blk, 0, none⟩ = some (.int .i64 x)) (hy : w.cell? ⟨blk, 1, none⟩ = some (.int .i64 y)) :
    Calls Try.prog 35 #[.int .i64 a, .int .i64 b, .slice (some ⟨blk, 0, none⟩) 2 2] w fun e w' => e = .returned (.bool (btw x a b && btw y a b)) ∧ Below w.heap.size w w' := by
  have := withinN_any a b (some ⟨blk, 0, none⟩) [x, y] 2 w ⟨by simp, blk, 0, fun _ => rfl, fun i hi => by
    have hi : i < 2 := by simpa using hi
    match i, hi with
    | 0, _ => exact hx
    | 1, _ => exact hy⟩
  simpa [winB] using this
theorem below_onN {B : Nat} {a b c : World} (h : Below B a b) (h' : Below b.heap.size b c) (hB : B ≤ b.heap.size) : Below B a c := h.trans (h'.mono hB)
end Go.Proofs.Ytghlhjiomebmhaa
