/-
  within, placeValid, jobValid, nightValid, fits of package night. By an AI agent.; Jobs and nights of package night: placeValid, jobValid, nightValid, fits. By an AI agent.
-/
import Derived.Test.YtghlhjiomebmhaaMgNightRight0
import Derived.Deep.RegionHeld3
import Derived.BigQuiet

namespace Go.Proofs.Ytghlhjiomebmhaa
set_option linter.unusedVariables false
set_option linter.unusedSimpArgs false
open Go.RowKit

theorem pos_ne {n i : Nat} {α : Type} {l : List α} (hi : i < l.length) : l ≠ [] := by rintro rfl; simp at hi
theorem btw_casesN (n a b : Int) : btw n a b = true ∨ btw n a b = false := by cases btw n a b <;> simp
/-- A slice of ints, of whatever size. -/
def IntsC (w : World) (a : Option Addr) (l : List (Int)) : Prop :=
  l.length ≤ 9223372036854775807 ∧ ∃ blk off, (l ≠ [] → a = some ⟨blk, off, none⟩) ∧ ∀ i, i < l.length → w.cell? ⟨blk, off + i, none⟩ = some (.int .i64 (gi l i))
theorem IntsC.below {w w' : World} {a : Option Addr} {l : List (Int)} (h : IntsC w a l) (hb : Below w.heap.size w w') : IntsC w' a l := by
  obtain ⟨h0, blk, off, h2, h3⟩ := h
  exact ⟨h0, blk, off, h2, fun i hi => cell_below (h3 i hi) hb⟩
theorem within1_cl (x a b : Int) (pa pb : Nat) (w : World) (hA : w.cell? ⟨pa, 0, none⟩ = some (.int .i64 a)) (hB : w.cell? ⟨pb, 0, none⟩ = some (.int .i64 b)) :
    Calls Try.prog 59 (#[.int .i64 x] ++ #[.pointer (some ⟨pa, 0, none⟩), .pointer (some ⟨pb, 0, none⟩)]) w fun e w' => e = .returned (.bool (!(btw x a b))) ∧ Below w.heap.size w w' := by
  by_cases h1 : x < a
  · rw [btw_f (by omega)]
    go_enter Try.func59, Try.ntmps59
    go_wp2
    go_ret
    exact ⟨rfl, Below.refl _ _⟩
  · by_cases h2 : b < x
    · rw [btw_f (by omega)]
      go_enter Try.func59, Try.ntmps59
      go_wp2
      go_ret
      exact ⟨rfl, Below.refl _ _⟩
    · rw [btw_t (by omega) (by omega)]
      go_enter Try.func59, Try.ntmps59
      go_wp2
      go_ret
      exact ⟨rfl, Below.refl _ _⟩

set_option maxRecDepth 100000 in
set_option maxHeartbeats 1000000 in
theorem idxW_any (aa : Option Addr) (l : List (Int)) (ca : Nat) (lb : Array Value) (p : Nat → Bool) (w : World) (hA : IntsC w aa l)
    (hp : ∀ j W, j < l.length → Below w.heap.size w W → Calls Try.prog 59 (#[.int .i64 (gi l j)] ++ lb) W fun e w' => e = .returned (.bool (p j)) ∧ Below W.heap.size W w') :
    Calls Try.prog 71 #[.slice aa l.length ca, .func (.func 59) #[] lb] w fun e w' => e = .returned (.int .i64 (idxK p l.length)) ∧ Below w.heap.size w w' := by
  obtain ⟨hlen, blk, off, hadr, hc⟩ := hA
  have HP := Lib.hid hp
  have HC := Lib.hid hc
  have HH : Hid (∀ k, k < l.length → p k = true → (∀ j, j < k → p j = false) → idxK p l.length = k) := Lib.hid fun k hk h hb => idxK_hit h hb _ hk
  have HM : Hid ((∀ j, j < l.length → p j = false) → idxK p l.length = -1) := Lib.hid fun h => idxK_miss _ h
  have HL : Hid (0 < l.length → aa = some ⟨blk, off, none⟩) := Lib.hid fun h => hadr (pos_ne (n := 0) h)
  generalize idxK p l.length = R at *
  clear hp hc hadr
  go_enter Try.func71, Try.ntmps71
  go_wp2_with fail
  go_loopw [8] (fun i wr => ∃ k : Nat, k ≤ l.length ∧ i = .int .i64 k ∧ Below w.heap.size w wr ∧ Hid (∀ j, j < k → p j = false)) (fun i _ => l.length - (intOf i).toNat)
  case atStart => exact ⟨0, Nat.zero_le _, rfl, Below.refl _ _, Lib.hid fun j hj => absurd hj (Nat.not_lt_zero _)⟩
  case round =>
    obtain ⟨k, hk, rfl, hb, HA⟩ := hrel
    by_cases hlt : k < l.length
    · obtain rfl := HL.out (by omega)
      have c0 := cell_below (HC.out k hlt) hb
      have HK := Lib.hid (fun W => HP.out k W hlt)
      have HHk := Lib.hid (HH.out k hlt)
      have HN : Hid (p k = false → ∀ j, j < k + 1 → p j = false) := Lib.hid fun h j hj => by
        by_cases e : j = k
        · subst e; exact h
        · exact HA.out j (by omega)
      clear HP HC HM HL HH
      generalize (gi l k) = x0 at *
      cases hpk : p k with
      | true =>
        have HR := Lib.hid (HHk.out hpk HA.out)
        rw [hpk] at HK
        clear hpk HHk HN
        go_wp2_with fail
        refine (HK.out _ hb).mono ?_
        rintro e w1 ⟨rfl, hb1⟩
        go_wp2_with fail
        go_ret
        rw [HR.out]
        exact ⟨rfl, hb.trans (hb1.mono hb.size)⟩
      | false =>
        have HR := Lib.hid (HN.out hpk)
        rw [hpk] at HK
        clear hpk HHk HN
        go_wp2_with fail
        refine (HK.out _ hb).mono ?_
        rintro e w1 ⟨rfl, hb1⟩
        go_wp2_with fail
        go_roundw
        case rel => exact ⟨k + 1, by omega, by go_num, hb.trans (hb1.mono hb.size), HR⟩
        case measure => simp [intOf]; omega
    · obtain rfl : k = l.length := by omega
      have HR := Lib.hid (HM.out HA.out)
      go_wp2_with fail
      go_ret
      rw [HR.out]
      exact ⟨rfl, hb⟩

set_option maxRecDepth 100000 in
theorem containsW_any (aa : Option Addr) (l : List (Int)) (ca : Nat) (lb : Array Value) (p : Nat → Bool) (w : World) (hA : IntsC w aa l)
    (hp : ∀ j W, j < l.length → Below w.heap.size w W → Calls Try.prog 59 (#[.int .i64 (gi l j)] ++ lb) W fun e w' => e = .returned (.bool (p j)) ∧ Below W.heap.size W w') :
    Calls Try.prog 58 #[.slice aa l.length ca, .func (.func 59) #[] lb] w fun e w' => e = .returned (.bool (anyK p l.length)) ∧ Below w.heap.size w w' := by
  have H := Lib.hid (idxW_any aa l ca lb p w hA hp)
  have hq := Lib.hid (idxK_any p l.length)
  clear hp hA
  generalize idxK p l.length = R at *
  generalize anyK p l.length = B at *
  have hq := hq.out
  subst hq
  go_enter Try.func58, Try.ntmps58
  go_wp2_with fail
  refine H.out.mono ?_
  rintro e w1 ⟨rfl, hb1⟩
  go_wp2_with fail
  all_goals
    go_ret
    exact ⟨by simp_all, hb1⟩

/-- Whether all of a list lie from a to b. -/
def winB (a b : Int) (l : List Int) : Bool := l.all fun x => btw x a b
theorem winB_any (a b : Int) (l : List Int) : winB a b l = !(anyK (fun j => !(btw (gi l j) a b)) l.length) := by
  unfold winB
  cases h : anyK (fun j => !(btw (gi l j) a b)) l.length with
  | false =>
    rw [anyK_iff] at h
    rw [Bool.not_false, List.all_eq_true]
    intro x hx
    obtain ⟨k, hk, e⟩ := List.getElem_of_mem hx
    have := h k hk
    unfold gi at this
    rw [List.getD_eq_getElem?_getD, List.getElem?_eq_getElem hk, Option.getD_some, e] at this
    simpa using this
  | true =>
    rw [Bool.not_true, ← Bool.not_eq_true, List.all_eq_true]
    intro g
    rw [(anyK_iff _).2] at h
    · cases h
    · intro k hk
      have := g (gi l k) (by unfold gi; rw [List.getD_eq_getElem?_getD, List.getElem?_eq_getElem hk]; exact List.getElem_mem hk)
      simp [this]
set_option maxRecDepth 100000 in
theorem withinN_any (a b : Int) (ad : Option Addr) (l : List Int) (ca : Nat) (w : World) (hI : IntsC w ad l) :
    Calls Try.prog 35 #[.int .i64 a, .int .i64 b, .slice ad l.length ca] w fun e w' => e = .returned (.bool (winB a b l)) ∧ Below w.heap.size w w' := by
  obtain ⟨wB, hwB⟩ : ∃ wB, (w.alloc (.cells #[.int .i64 a] 3)).alloc (.cells #[.int .i64 b] 3) = wB := ⟨_, rfl⟩
  have hb : Below w.heap.size w wB := by rw [← hwB]; exact ((Below.refl _ _).alloc (Nat.le_refl _) _).alloc (by simp) _
  have p0 : wB.cell? ⟨w.heap.size, 0, none⟩ = some (.int .i64 a) := by rw [← hwB]; simp [go_sem]
  have p1 : wB.cell? ⟨w.heap.size + 1, 0, none⟩ = some (.int .i64 b) := by rw [← hwB]; simp [go_sem]
  have HC := Lib.hid (containsW_any ad l ca #[.pointer (some ⟨w.heap.size, 0, none⟩), .pointer (some ⟨w.heap.size + 1, 0, none⟩)] (fun j => !(btw (gi l j) a b)) wB (hI.below hb) fun j W hj hW => within1_cl _ a b _ _ W (cell_below p0 hW) (cell_below p1 hW))
  rw [winB_any]
  subst hwB
  clear p0 p1 hI
  generalize anyK (fun j => !(btw (gi l j) a b)) l.length = R at *
  go_enter Try.func35, Try.ntmps35
  go_wp2_with fail
  refine HC.out.mono ?_
  rintro e w1 ⟨rfl, hb1⟩
  go_wp2_with fail
  all_goals
    go_ret
    exact ⟨by simp_all, hb.trans (hb1.mono hb.size)⟩
theorem withinN0_any (a b : Int) (w : World) :
    Calls Try.prog 35 #[.int .i64 a, .int .i64 b, .slice none 0 0] w fun e w' => e = .returned (.bool true) ∧ Below w.heap.size w w' :=
  withinN_any a b none [] 0 w ⟨by simp, 0, 0, fun h => absurd rfl h, fun i hi => absurd hi (Nat.not_lt_zero _)⟩
theorem withinN1_any (a b x : Int) (blk : Nat) (w : World) (hx : w.cell? ⟨blk, 0, none⟩ = some (.int .i64 x)) :
    Calls Try.prog 35 #[.int .i64 a, .int .i64 b, .slice (some ⟨blk, 0, none⟩) 1 1] w fun e w' => e = .returned (.bool (btw x a b)) ∧ Below w.heap.size w w' := by
  have := withinN_any a b (some ⟨blk, 0, none⟩) [x] 1 w ⟨by simp, blk, 0, fun _ => rfl, fun i hi => by
    obtain rfl : i = 0 := by simpa using hi
    exact hx⟩
  simpa [winB] using this
theorem withinN2_any (a b x y : Int) (blk : Nat) (w : World) (hx : w.cell? ⟨blk, 0, none⟩ = some (.int .i64 x)) (hy : w.cell? ⟨blk, 1, none⟩ = some (.int .i64 y)) :
    Calls Try.prog 35 #[.int .i64 a, .int .i64 b, .slice (some ⟨blk, 0, none⟩) 2 2] w fun e w' => e = .returned (.bool (btw x a b && btw y a b)) ∧ Below w.heap.size w w' := by
  have := withinN_any a b (some ⟨blk, 0, none⟩) [x, y] 2 w ⟨by simp, blk, 0, fun _ => rfl, fun i hi => by
    have hi : i < 2 := by simpa using hi
    match i, hi with
    | 0, _ => exact hx
    | 1, _ => exact hy⟩
  simpa [winB] using this
theorem below_onN {B : Nat} {a b c : World} (h : Below B a b) (h' : Below b.heap.size b c) (hB : B ≤ b.heap.size) : Below B a c := h.trans (h'.mono hB)
end Go.Proofs.Ytghlhjiomebmhaa

namespace Go.Proofs.Ytghlhjiomebmhaa
set_option linter.unusedVariables false
set_option linter.unusedSimpArgs false
open Go.RowKit

/-- A job: number, road, chainage, first day, last day, crew, dry, warm. -/
structure Jo where
  n : Int
  r : Int
  c : Int
  f : Int
  l : Int
  w : Int
  dy : Bool
  wm : Bool
/-- A night: day, road, from, to, crew, places, rain, frost. -/
structure Ni where
  d : Int
  r : Int
  f : Int
  t : Int
  w : Int
  p : Int
  rn : Bool
  fr : Bool
def gj (l : List Jo) (i : Nat) : Jo := l.getD i ⟨0, 0, 0, 0, 0, 0, false, false⟩
def gn (l : List Ni) (i : Nat) : Ni := l.getD i ⟨0, 0, 0, 0, 0, 0, false, false⟩
def placeB (r c w : Int) : Bool := btw r 1 1000000 && (btw c 0 10000000 && btw w 1 9)
def jobB (s : Jo) : Bool := btw s.n 1 1000000000 && (placeB s.r s.c s.w && ((btw s.f 0 100000 && btw s.l 0 100000) && decide (s.f ≤ s.l)))
def nightB (s : Ni) : Bool := btw s.d 0 100000 && (placeB s.r s.f s.w && (btw s.t s.f 10000000 && btw s.p 0 100))
def fitB (j : Jo) (s : Ni) : Bool := (j.r == s.r) && ((j.w == s.w) && (btw s.d j.f j.l && (btw j.c s.f s.t && (!(j.dy && s.rn) && !(j.wm && s.fr)))))
set_option maxHeartbeats 1000000 in
theorem placeValid_0 (r c w0 : Int) (w : World) (h0 : btw r 1 1000000 = false) :
    Calls Try.prog 69 #[.int .i64 r, .int .i64 c, .int .i64 w0] w fun e w' => e = .returned (.bool (false)) ∧ Below w.heap.size w w' := by
  have H0 := Lib.hid h0
  clear h0
  go_enter Try.func69, Try.ntmps69
  go_wp2_with fail
  obtain ⟨wB, hwB⟩ : ∃ wB, (w.alloc (.cells #[.int .i64 r] 3)) = wB := ⟨_, rfl⟩
  have hb : Below w.heap.size w wB := by rw [← hwB]; exact (Below.refl _ _).alloc (by simp <;> omega) _
  have q0 : wB.cell? ⟨w.heap.size, 0, none⟩ = some (.int .i64 r) := by rw [← hwB]; simp [go_sem]
  rw [hwB]
  clear hwB
  refine (withinN1_any _ _ r _ _ q0).mono ?_
  rintro e w1 ⟨rfl, hb1⟩
  rw [H0.out]
  have hb := below_onN hb hb1 hb.size
  clear q0
  go_wp2_with fail
  go_ret
  exact ⟨rfl, hb⟩
set_option maxHeartbeats 1000000 in
theorem placeValid_1 (r c w0 : Int) (w : World) (h0 : btw r 1 1000000 = true) (h1 : btw c 0 10000000 = false) :
    Calls Try.prog 69 #[.int .i64 r, .int .i64 c, .int .i64 w0] w fun e w' => e = .returned (.bool (false)) ∧ Below w.heap.size w w' := by
  have H0 := Lib.hid h0
  have H1 := Lib.hid h1
  clear h0 h1
  go_enter Try.func69, Try.ntmps69
  go_wp2_with fail
  obtain ⟨wB, hwB⟩ : ∃ wB, (w.alloc (.cells #[.int .i64 r] 3)) = wB := ⟨_, rfl⟩
  have hb : Below w.heap.size w wB := by rw [← hwB]; exact (Below.refl _ _).alloc (by simp <;> omega) _
  have q0 : wB.cell? ⟨w.heap.size, 0, none⟩ = some (.int .i64 r) := by rw [← hwB]; simp [go_sem]
  rw [hwB]
  clear hwB
  refine (withinN1_any _ _ r _ _ q0).mono ?_
  rintro e w1 ⟨rfl, hb1⟩
  rw [H0.out]
  have hb := below_onN hb hb1 hb.size
  clear q0
  go_wp2_with fail
  refine (withinN1_any _ _ c _ _ (by simp [go_sem])).mono ?_
  rintro e w2 ⟨rfl, hb2⟩
  rw [H1.out]
  have hb := below_onN hb (box_below hb2) hb.size
  go_wp2_with fail
  go_ret
  exact ⟨rfl, hb⟩
set_option maxHeartbeats 1000000 in
theorem placeValid_2 (r c w0 : Int) (w : World) (h0 : btw r 1 1000000 = true) (h1 : btw c 0 10000000 = true) :
    Calls Try.prog 69 #[.int .i64 r, .int .i64 c, .int .i64 w0] w fun e w' => e = .returned (.bool (btw w0 1 9)) ∧ Below w.heap.size w w' := by
  have H0 := Lib.hid h0
  have H1 := Lib.hid h1
  have H2 := Lib.hid (rfl : btw w0 1 9 = btw w0 1 9)
  clear h0 h1
  go_enter Try.func69, Try.ntmps69
  go_wp2_with fail
  obtain ⟨wB, hwB⟩ : ∃ wB, (w.alloc (.cells #[.int .i64 r] 3)) = wB := ⟨_, rfl⟩
  have hb : Below w.heap.size w wB := by rw [← hwB]; exact (Below.refl _ _).alloc (by simp <;> omega) _
  have q0 : wB.cell? ⟨w.heap.size, 0, none⟩ = some (.int .i64 r) := by rw [← hwB]; simp [go_sem]
  rw [hwB]
  clear hwB
  refine (withinN1_any _ _ r _ _ q0).mono ?_
  rintro e w1 ⟨rfl, hb1⟩
  rw [H0.out]
  have hb := below_onN hb hb1 hb.size
  clear q0
  go_wp2_with fail
  refine (withinN1_any _ _ c _ _ (by simp [go_sem])).mono ?_
  rintro e w2 ⟨rfl, hb2⟩
  rw [H1.out]
  have hb := below_onN hb (box_below hb2) hb.size
  go_wp2_with fail
  refine (withinN1_any _ _ w0 _ _ (by simp [go_sem])).mono ?_
  rintro e w3 ⟨rfl, hb3⟩
  have hb := below_onN hb (box_below hb3) hb.size
  go_wp2_with fail
  go_ret
  exact ⟨rfl, hb⟩
theorem placeValid_r (r c w0 : Int) (w : World) :
    Calls Try.prog 69 #[.int .i64 r, .int .i64 c, .int .i64 w0] w fun e w' => e = .returned (.bool (placeB r c w0)) ∧ Below w.heap.size w w' := by
  unfold placeB
  cases h0 : btw r 1 1000000 with
  | false => exact placeValid_0 r c w0 w h0
  | true =>
    cases h1 : btw c 0 10000000 with
    | false => exact placeValid_1 r c w0 w h0 h1
    | true =>
      exact placeValid_2 r c w0 w h0 h1
theorem placeValid_v (r c w0 : Int) {v : Bool} (h : placeB r c w0 = v) (w : World) :
    Calls Try.prog 69 #[.int .i64 r, .int .i64 c, .int .i64 w0] w fun e w' => e = .returned (.bool v) ∧ Below w.heap.size w w' := by
  rw [← h]; exact placeValid_r r c w0 w
set_option maxHeartbeats 1000000 in
theorem jobValid_0 (s : Jo) (w : World) (h0 : btw s.n 1 1000000000 = false) :
    Calls Try.prog 67 #[.agg #[.int .i64 s.n, .int .i64 s.r, .int .i64 s.c, .int .i64 s.f, .int .i64 s.l, .int .i64 s.w, .bool s.dy, .bool s.wm]] w fun e w' => e = .returned (.bool (false)) ∧ Below w.heap.size w w' := by
  have H0 := Lib.hid h0
  clear h0
  go_enter Try.func67, Try.ntmps67
  go_wp2_with fail
  obtain ⟨wB, hwB⟩ : ∃ wB, ((w.alloc (.cells #[.int .i64 s.n, .int .i64 s.r, .int .i64 s.c, .int .i64 s.f, .int .i64 s.l, .int .i64 s.w, .bool s.dy, .bool s.wm] 43)).alloc (.cells #[.int .i64 s.n] 3)) = wB := ⟨_, rfl⟩
  have hb : Below w.heap.size w wB := by rw [← hwB]; exact ((Below.refl _ _).alloc (by simp <;> omega) _).alloc (by simp <;> omega) _
  have hz : w.heap.size < wB.heap.size := by rw [← hwB]; simp; try omega
  have p0_0 : wB.cell? ⟨w.heap.size, 0, none⟩ = some (.int .i64 s.n) := by rw [← hwB]; simp [go_sem]
  have p0_1 : wB.cell? ⟨w.heap.size, 1, none⟩ = some (.int .i64 s.r) := by rw [← hwB]; simp [go_sem]
  have p0_2 : wB.cell? ⟨w.heap.size, 2, none⟩ = some (.int .i64 s.c) := by rw [← hwB]; simp [go_sem]
  have p0_3 : wB.cell? ⟨w.heap.size, 3, none⟩ = some (.int .i64 s.f) := by rw [← hwB]; simp [go_sem]
  have p0_4 : wB.cell? ⟨w.heap.size, 4, none⟩ = some (.int .i64 s.l) := by rw [← hwB]; simp [go_sem]
  have p0_5 : wB.cell? ⟨w.heap.size, 5, none⟩ = some (.int .i64 s.w) := by rw [← hwB]; simp [go_sem]
  have p0_6 : wB.cell? ⟨w.heap.size, 6, none⟩ = some (.bool s.dy) := by rw [← hwB]; simp [go_sem]
  have p0_7 : wB.cell? ⟨w.heap.size, 7, none⟩ = some (.bool s.wm) := by rw [← hwB]; simp [go_sem]
  have q0 : wB.cell? ⟨w.heap.size + 1, 0, none⟩ = some (.int .i64 s.n) := by rw [← hwB]; simp [go_sem]
  rw [hwB]
  clear hwB
  refine (withinN1_any _ _ s.n _ _ q0).mono ?_
  rintro e w1 ⟨rfl, hb1⟩
  rw [H0.out]
  have p0_0 := cell_below p0_0 hb1
  have p0_1 := cell_below p0_1 hb1
  have p0_2 := cell_below p0_2 hb1
  have p0_3 := cell_below p0_3 hb1
  have p0_4 := cell_below p0_4 hb1
  have p0_5 := cell_below p0_5 hb1
  have p0_6 := cell_below p0_6 hb1
  have p0_7 := cell_below p0_7 hb1
  have hb := below_onN hb hb1 hb.size
  clear q0
  go_wp2_with fail
  go_ret
  exact ⟨rfl, hb⟩
set_option maxHeartbeats 1000000 in
theorem jobValid_1 (s : Jo) (w : World) (h0 : btw s.n 1 1000000000 = true) (h1 : placeB s.r s.c s.w = false) :
    Calls Try.prog 67 #[.agg #[.int .i64 s.n, .int .i64 s.r, .int .i64 s.c, .int .i64 s.f, .int .i64 s.l, .int .i64 s.w, .bool s.dy, .bool s.wm]] w fun e w' => e = .returned (.bool (false)) ∧ Below w.heap.size w w' := by
  have H0 := Lib.hid h0
  have HP := Lib.hid (fun W => placeValid_v s.r s.c s.w h1 W)
  clear h0 h1
  go_enter Try.func67, Try.ntmps67
  go_wp2_with fail
  obtain ⟨wB, hwB⟩ : ∃ wB, ((w.alloc (.cells #[.int .i64 s.n, .int .i64 s.r, .int .i64 s.c, .int .i64 s.f, .int .i64 s.l, .int .i64 s.w, .bool s.dy, .bool s.wm] 43)).alloc (.cells #[.int .i64 s.n] 3)) = wB := ⟨_, rfl⟩
  have hb : Below w.heap.size w wB := by rw [← hwB]; exact ((Below.refl _ _).alloc (by simp <;> omega) _).alloc (by simp <;> omega) _
  have hz : w.heap.size < wB.heap.size := by rw [← hwB]; simp; try omega
  have p0_0 : wB.cell? ⟨w.heap.size, 0, none⟩ = some (.int .i64 s.n) := by rw [← hwB]; simp [go_sem]
  have p0_1 : wB.cell? ⟨w.heap.size, 1, none⟩ = some (.int .i64 s.r) := by rw [← hwB]; simp [go_sem]
  have p0_2 : wB.cell? ⟨w.heap.size, 2, none⟩ = some (.int .i64 s.c) := by rw [← hwB]; simp [go_sem]
  have p0_3 : wB.cell? ⟨w.heap.size, 3, none⟩ = some (.int .i64 s.f) := by rw [← hwB]; simp [go_sem]
  have p0_4 : wB.cell? ⟨w.heap.size, 4, none⟩ = some (.int .i64 s.l) := by rw [← hwB]; simp [go_sem]
  have p0_5 : wB.cell? ⟨w.heap.size, 5, none⟩ = some (.int .i64 s.w) := by rw [← hwB]; simp [go_sem]
  have p0_6 : wB.cell? ⟨w.heap.size, 6, none⟩ = some (.bool s.dy) := by rw [← hwB]; simp [go_sem]
  have p0_7 : wB.cell? ⟨w.heap.size, 7, none⟩ = some (.bool s.wm) := by rw [← hwB]; simp [go_sem]
  have q0 : wB.cell? ⟨w.heap.size + 1, 0, none⟩ = some (.int .i64 s.n) := by rw [← hwB]; simp [go_sem]
  rw [hwB]
  clear hwB
  refine (withinN1_any _ _ s.n _ _ q0).mono ?_
  rintro e w1 ⟨rfl, hb1⟩
  rw [H0.out]
  have p0_0 := cell_below p0_0 hb1
  have p0_1 := cell_below p0_1 hb1
  have p0_2 := cell_below p0_2 hb1
  have p0_3 := cell_below p0_3 hb1
  have p0_4 := cell_below p0_4 hb1
  have p0_5 := cell_below p0_5 hb1
  have p0_6 := cell_below p0_6 hb1
  have p0_7 := cell_below p0_7 hb1
  have hb := below_onN hb hb1 hb.size
  clear q0
  go_wp2_with fail
  refine (HP.out _).mono ?_
  rintro e w2 ⟨rfl, hb2⟩
  have p0_0 := cell_below p0_0 hb2
  have p0_1 := cell_below p0_1 hb2
  have p0_2 := cell_below p0_2 hb2
  have p0_3 := cell_below p0_3 hb2
  have p0_4 := cell_below p0_4 hb2
  have p0_5 := cell_below p0_5 hb2
  have p0_6 := cell_below p0_6 hb2
  have p0_7 := cell_below p0_7 hb2
  have hb := below_onN hb hb2 hb.size
  go_wp2_with fail
  go_ret
  exact ⟨rfl, hb⟩
set_option maxHeartbeats 1000000 in
theorem jobValid_2 (s : Jo) (w : World) (h0 : btw s.n 1 1000000000 = true) (h1 : placeB s.r s.c s.w = true) (h2 : (btw s.f 0 100000 && btw s.l 0 100000) = false) :
    Calls Try.prog 67 #[.agg #[.int .i64 s.n, .int .i64 s.r, .int .i64 s.c, .int .i64 s.f, .int .i64 s.l, .int .i64 s.w, .bool s.dy, .bool s.wm]] w fun e w' => e = .returned (.bool (false)) ∧ Below w.heap.size w w' := by
  have H0 := Lib.hid h0
  have HP := Lib.hid (fun W => placeValid_v s.r s.c s.w h1 W)
  have H2 := Lib.hid h2
  clear h0 h1 h2
  go_enter Try.func67, Try.ntmps67
  go_wp2_with fail
  obtain ⟨wB, hwB⟩ : ∃ wB, ((w.alloc (.cells #[.int .i64 s.n, .int .i64 s.r, .int .i64 s.c, .int .i64 s.f, .int .i64 s.l, .int .i64 s.w, .bool s.dy, .bool s.wm] 43)).alloc (.cells #[.int .i64 s.n] 3)) = wB := ⟨_, rfl⟩
  have hb : Below w.heap.size w wB := by rw [← hwB]; exact ((Below.refl _ _).alloc (by simp <;> omega) _).alloc (by simp <;> omega) _
  have hz : w.heap.size < wB.heap.size := by rw [← hwB]; simp; try omega
  have p0_0 : wB.cell? ⟨w.heap.size, 0, none⟩ = some (.int .i64 s.n) := by rw [← hwB]; simp [go_sem]
  have p0_1 : wB.cell? ⟨w.heap.size, 1, none⟩ = some (.int .i64 s.r) := by rw [← hwB]; simp [go_sem]
  have p0_2 : wB.cell? ⟨w.heap.size, 2, none⟩ = some (.int .i64 s.c) := by rw [← hwB]; simp [go_sem]
  have p0_3 : wB.cell? ⟨w.heap.size, 3, none⟩ = some (.int .i64 s.f) := by rw [← hwB]; simp [go_sem]
  have p0_4 : wB.cell? ⟨w.heap.size, 4, none⟩ = some (.int .i64 s.l) := by rw [← hwB]; simp [go_sem]
  have p0_5 : wB.cell? ⟨w.heap.size, 5, none⟩ = some (.int .i64 s.w) := by rw [← hwB]; simp [go_sem]
  have p0_6 : wB.cell? ⟨w.heap.size, 6, none⟩ = some (.bool s.dy) := by rw [← hwB]; simp [go_sem]
  have p0_7 : wB.cell? ⟨w.heap.size, 7, none⟩ = some (.bool s.wm) := by rw [← hwB]; simp [go_sem]
  have q0 : wB.cell? ⟨w.heap.size + 1, 0, none⟩ = some (.int .i64 s.n) := by rw [← hwB]; simp [go_sem]
  rw [hwB]
  clear hwB
  refine (withinN1_any _ _ s.n _ _ q0).mono ?_
  rintro e w1 ⟨rfl, hb1⟩
  rw [H0.out]
  have p0_0 := cell_below p0_0 hb1
  have p0_1 := cell_below p0_1 hb1
  have p0_2 := cell_below p0_2 hb1
  have p0_3 := cell_below p0_3 hb1
  have p0_4 := cell_below p0_4 hb1
  have p0_5 := cell_below p0_5 hb1
  have p0_6 := cell_below p0_6 hb1
  have p0_7 := cell_below p0_7 hb1
  have hb := below_onN hb hb1 hb.size
  clear q0
  go_wp2_with fail
  refine (HP.out _).mono ?_
  rintro e w2 ⟨rfl, hb2⟩
  have p0_0 := cell_below p0_0 hb2
  have p0_1 := cell_below p0_1 hb2
  have p0_2 := cell_below p0_2 hb2
  have p0_3 := cell_below p0_3 hb2
  have p0_4 := cell_below p0_4 hb2
  have p0_5 := cell_below p0_5 hb2
  have p0_6 := cell_below p0_6 hb2
  have p0_7 := cell_below p0_7 hb2
  have hb := below_onN hb hb2 hb.size
  go_wp2_with fail
  refine (withinN2_any _ _ s.f s.l _ _ (by simp [go_sem]) (by simp [go_sem])).mono ?_
  rintro e w3 ⟨rfl, hb3⟩
  rw [H2.out]
  have p0_0 := cell_below p0_0 (box_below hb3)
  have p0_1 := cell_below p0_1 (box_below hb3)
  have p0_2 := cell_below p0_2 (box_below hb3)
  have p0_3 := cell_below p0_3 (box_below hb3)
  have p0_4 := cell_below p0_4 (box_below hb3)
  have p0_5 := cell_below p0_5 (box_below hb3)
  have p0_6 := cell_below p0_6 (box_below hb3)
  have p0_7 := cell_below p0_7 (box_below hb3)
  have hb := below_onN hb (box_below hb3) hb.size
  go_wp2_with fail
  go_ret
  exact ⟨rfl, hb⟩
set_option maxHeartbeats 1000000 in
theorem jobValid_3 (s : Jo) (w : World) (h0 : btw s.n 1 1000000000 = true) (h1 : placeB s.r s.c s.w = true) (h2 : (btw s.f 0 100000 && btw s.l 0 100000) = true) :
    Calls Try.prog 67 #[.agg #[.int .i64 s.n, .int .i64 s.r, .int .i64 s.c, .int .i64 s.f, .int .i64 s.l, .int .i64 s.w, .bool s.dy, .bool s.wm]] w fun e w' => e = .returned (.bool (decide (s.f ≤ s.l))) ∧ Below w.heap.size w w' := by
  have H0 := Lib.hid h0
  have HP := Lib.hid (fun W => placeValid_v s.r s.c s.w h1 W)
  have H2 := Lib.hid h2
  clear h0 h1 h2
  go_enter Try.func67, Try.ntmps67
  go_wp2_with fail
  obtain ⟨wB, hwB⟩ : ∃ wB, ((w.alloc (.cells #[.int .i64 s.n, .int .i64 s.r, .int .i64 s.c, .int .i64 s.f, .int .i64 s.l, .int .i64 s.w, .bool s.dy, .bool s.wm] 43)).alloc (.cells #[.int .i64 s.n] 3)) = wB := ⟨_, rfl⟩
  have hb : Below w.heap.size w wB := by rw [← hwB]; exact ((Below.refl _ _).alloc (by simp <;> omega) _).alloc (by simp <;> omega) _
  have hz : w.heap.size < wB.heap.size := by rw [← hwB]; simp; try omega
  have p0_0 : wB.cell? ⟨w.heap.size, 0, none⟩ = some (.int .i64 s.n) := by rw [← hwB]; simp [go_sem]
  have p0_1 : wB.cell? ⟨w.heap.size, 1, none⟩ = some (.int .i64 s.r) := by rw [← hwB]; simp [go_sem]
  have p0_2 : wB.cell? ⟨w.heap.size, 2, none⟩ = some (.int .i64 s.c) := by rw [← hwB]; simp [go_sem]
  have p0_3 : wB.cell? ⟨w.heap.size, 3, none⟩ = some (.int .i64 s.f) := by rw [← hwB]; simp [go_sem]
  have p0_4 : wB.cell? ⟨w.heap.size, 4, none⟩ = some (.int .i64 s.l) := by rw [← hwB]; simp [go_sem]
  have p0_5 : wB.cell? ⟨w.heap.size, 5, none⟩ = some (.int .i64 s.w) := by rw [← hwB]; simp [go_sem]
  have p0_6 : wB.cell? ⟨w.heap.size, 6, none⟩ = some (.bool s.dy) := by rw [← hwB]; simp [go_sem]
  have p0_7 : wB.cell? ⟨w.heap.size, 7, none⟩ = some (.bool s.wm) := by rw [← hwB]; simp [go_sem]
  have q0 : wB.cell? ⟨w.heap.size + 1, 0, none⟩ = some (.int .i64 s.n) := by rw [← hwB]; simp [go_sem]
  rw [hwB]
  clear hwB
  refine (withinN1_any _ _ s.n _ _ q0).mono ?_
  rintro e w1 ⟨rfl, hb1⟩
  rw [H0.out]
  have p0_0 := cell_below p0_0 hb1
  have p0_1 := cell_below p0_1 hb1
  have p0_2 := cell_below p0_2 hb1
  have p0_3 := cell_below p0_3 hb1
  have p0_4 := cell_below p0_4 hb1
  have p0_5 := cell_below p0_5 hb1
  have p0_6 := cell_below p0_6 hb1
  have p0_7 := cell_below p0_7 hb1
  have hb := below_onN hb hb1 hb.size
  clear q0
  go_wp2_with fail
  refine (HP.out _).mono ?_
  rintro e w2 ⟨rfl, hb2⟩
  have p0_0 := cell_below p0_0 hb2
  have p0_1 := cell_below p0_1 hb2
  have p0_2 := cell_below p0_2 hb2
  have p0_3 := cell_below p0_3 hb2
  have p0_4 := cell_below p0_4 hb2
  have p0_5 := cell_below p0_5 hb2
  have p0_6 := cell_below p0_6 hb2
  have p0_7 := cell_below p0_7 hb2
  have hb := below_onN hb hb2 hb.size
  go_wp2_with fail
  refine (withinN2_any _ _ s.f s.l _ _ (by simp [go_sem]) (by simp [go_sem])).mono ?_
  rintro e w3 ⟨rfl, hb3⟩
  rw [H2.out]
  have p0_0 := cell_below p0_0 (box_below hb3)
  have p0_1 := cell_below p0_1 (box_below hb3)
  have p0_2 := cell_below p0_2 (box_below hb3)
  have p0_3 := cell_below p0_3 (box_below hb3)
  have p0_4 := cell_below p0_4 (box_below hb3)
  have p0_5 := cell_below p0_5 (box_below hb3)
  have p0_6 := cell_below p0_6 (box_below hb3)
  have p0_7 := cell_below p0_7 (box_below hb3)
  have hb := below_onN hb (box_below hb3) hb.size
  go_wp2_with fail
  go_ret
  exact ⟨by first | rfl | simp, hb⟩
theorem jobValid_r (s : Jo) (w : World) :
    Calls Try.prog 67 #[.agg #[.int .i64 s.n, .int .i64 s.r, .int .i64 s.c, .int .i64 s.f, .int .i64 s.l, .int .i64 s.w, .bool s.dy, .bool s.wm]] w fun e w' => e = .returned (.bool (jobB s)) ∧ Below w.heap.size w w' := by
  unfold jobB
  cases h0 : btw s.n 1 1000000000 with
  | false => exact jobValid_0 s w h0
  | true =>
    cases h1 : placeB s.r s.c s.w with
    | false => exact jobValid_1 s w h0 h1
    | true =>
      cases h2 : (btw s.f 0 100000 && btw s.l 0 100000) with
      | false => exact jobValid_2 s w h0 h1 h2
      | true =>
        exact jobValid_3 s w h0 h1 h2
set_option maxHeartbeats 1000000 in
theorem nightValid_0 (s : Ni) (w : World) (h0 : btw s.d 0 100000 = false) :
    Calls Try.prog 52 #[.agg #[.int .i64 s.d, .int .i64 s.r, .int .i64 s.f, .int .i64 s.t, .int .i64 s.w, .int .i64 s.p, .bool s.rn, .bool s.fr]] w fun e w' => e = .returned (.bool (false)) ∧ Below w.heap.size w w' := by
  have H0 := Lib.hid h0
  clear h0
  go_enter Try.func52, Try.ntmps52
  go_wp2_with fail
  obtain ⟨wB, hwB⟩ : ∃ wB, ((w.alloc (.cells #[.int .i64 s.d, .int .i64 s.r, .int .i64 s.f, .int .i64 s.t, .int .i64 s.w, .int .i64 s.p, .bool s.rn, .bool s.fr] 51)).alloc (.cells #[.int .i64 s.d] 3)) = wB := ⟨_, rfl⟩
  have hb : Below w.heap.size w wB := by rw [← hwB]; exact ((Below.refl _ _).alloc (by simp <;> omega) _).alloc (by simp <;> omega) _
  have hz : w.heap.size < wB.heap.size := by rw [← hwB]; simp; try omega
  have p0_0 : wB.cell? ⟨w.heap.size, 0, none⟩ = some (.int .i64 s.d) := by rw [← hwB]; simp [go_sem]
  have p0_1 : wB.cell? ⟨w.heap.size, 1, none⟩ = some (.int .i64 s.r) := by rw [← hwB]; simp [go_sem]
  have p0_2 : wB.cell? ⟨w.heap.size, 2, none⟩ = some (.int .i64 s.f) := by rw [← hwB]; simp [go_sem]
  have p0_3 : wB.cell? ⟨w.heap.size, 3, none⟩ = some (.int .i64 s.t) := by rw [← hwB]; simp [go_sem]
  have p0_4 : wB.cell? ⟨w.heap.size, 4, none⟩ = some (.int .i64 s.w) := by rw [← hwB]; simp [go_sem]
  have p0_5 : wB.cell? ⟨w.heap.size, 5, none⟩ = some (.int .i64 s.p) := by rw [← hwB]; simp [go_sem]
  have p0_6 : wB.cell? ⟨w.heap.size, 6, none⟩ = some (.bool s.rn) := by rw [← hwB]; simp [go_sem]
  have p0_7 : wB.cell? ⟨w.heap.size, 7, none⟩ = some (.bool s.fr) := by rw [← hwB]; simp [go_sem]
  have q0 : wB.cell? ⟨w.heap.size + 1, 0, none⟩ = some (.int .i64 s.d) := by rw [← hwB]; simp [go_sem]
  rw [hwB]
  clear hwB
  refine (withinN1_any _ _ s.d _ _ q0).mono ?_
  rintro e w1 ⟨rfl, hb1⟩
  rw [H0.out]
  have p0_0 := cell_below p0_0 hb1
  have p0_1 := cell_below p0_1 hb1
  have p0_2 := cell_below p0_2 hb1
  have p0_3 := cell_below p0_3 hb1
  have p0_4 := cell_below p0_4 hb1
  have p0_5 := cell_below p0_5 hb1
  have p0_6 := cell_below p0_6 hb1
  have p0_7 := cell_below p0_7 hb1
  have hb := below_onN hb hb1 hb.size
  clear q0
  go_wp2_with fail
  go_ret
  exact ⟨rfl, hb⟩
set_option maxHeartbeats 1000000 in
theorem nightValid_1 (s : Ni) (w : World) (h0 : btw s.d 0 100000 = true) (h1 : placeB s.r s.f s.w = false) :
    Calls Try.prog 52 #[.agg #[.int .i64 s.d, .int .i64 s.r, .int .i64 s.f, .int .i64 s.t, .int .i64 s.w, .int .i64 s.p, .bool s.rn, .bool s.fr]] w fun e w' => e = .returned (.bool (false)) ∧ Below w.heap.size w w' := by
  have H0 := Lib.hid h0
  have HP := Lib.hid (fun W => placeValid_v s.r s.f s.w h1 W)
  clear h0 h1
  go_enter Try.func52, Try.ntmps52
  go_wp2_with fail
  obtain ⟨wB, hwB⟩ : ∃ wB, ((w.alloc (.cells #[.int .i64 s.d, .int .i64 s.r, .int .i64 s.f, .int .i64 s.t, .int .i64 s.w, .int .i64 s.p, .bool s.rn, .bool s.fr] 51)).alloc (.cells #[.int .i64 s.d] 3)) = wB := ⟨_, rfl⟩
  have hb : Below w.heap.size w wB := by rw [← hwB]; exact ((Below.refl _ _).alloc (by simp <;> omega) _).alloc (by simp <;> omega) _
  have hz : w.heap.size < wB.heap.size := by rw [← hwB]; simp; try omega
  have p0_0 : wB.cell? ⟨w.heap.size, 0, none⟩ = some (.int .i64 s.d) := by rw [← hwB]; simp [go_sem]
  have p0_1 : wB.cell? ⟨w.heap.size, 1, none⟩ = some (.int .i64 s.r) := by rw [← hwB]; simp [go_sem]
  have p0_2 : wB.cell? ⟨w.heap.size, 2, none⟩ = some (.int .i64 s.f) := by rw [← hwB]; simp [go_sem]
  have p0_3 : wB.cell? ⟨w.heap.size, 3, none⟩ = some (.int .i64 s.t) := by rw [← hwB]; simp [go_sem]
  have p0_4 : wB.cell? ⟨w.heap.size, 4, none⟩ = some (.int .i64 s.w) := by rw [← hwB]; simp [go_sem]
  have p0_5 : wB.cell? ⟨w.heap.size, 5, none⟩ = some (.int .i64 s.p) := by rw [← hwB]; simp [go_sem]
  have p0_6 : wB.cell? ⟨w.heap.size, 6, none⟩ = some (.bool s.rn) := by rw [← hwB]; simp [go_sem]
  have p0_7 : wB.cell? ⟨w.heap.size, 7, none⟩ = some (.bool s.fr) := by rw [← hwB]; simp [go_sem]
  have q0 : wB.cell? ⟨w.heap.size + 1, 0, none⟩ = some (.int .i64 s.d) := by rw [← hwB]; simp [go_sem]
  rw [hwB]
  clear hwB
  refine (withinN1_any _ _ s.d _ _ q0).mono ?_
  rintro e w1 ⟨rfl, hb1⟩
  rw [H0.out]
  have p0_0 := cell_below p0_0 hb1
  have p0_1 := cell_below p0_1 hb1
  have p0_2 := cell_below p0_2 hb1
  have p0_3 := cell_below p0_3 hb1
  have p0_4 := cell_below p0_4 hb1
  have p0_5 := cell_below p0_5 hb1
  have p0_6 := cell_below p0_6 hb1
  have p0_7 := cell_below p0_7 hb1
  have hb := below_onN hb hb1 hb.size
  clear q0
  go_wp2_with fail
  refine (HP.out _).mono ?_
  rintro e w2 ⟨rfl, hb2⟩
  have p0_0 := cell_below p0_0 hb2
  have p0_1 := cell_below p0_1 hb2
  have p0_2 := cell_below p0_2 hb2
  have p0_3 := cell_below p0_3 hb2
  have p0_4 := cell_below p0_4 hb2
  have p0_5 := cell_below p0_5 hb2
  have p0_6 := cell_below p0_6 hb2
  have p0_7 := cell_below p0_7 hb2
  have hb := below_onN hb hb2 hb.size
  go_wp2_with fail
  go_ret
  exact ⟨rfl, hb⟩
set_option maxHeartbeats 1000000 in
theorem nightValid_2 (s : Ni) (w : World) (h0 : btw s.d 0 100000 = true) (h1 : placeB s.r s.f s.w = true) (h2 : btw s.t s.f 10000000 = false) :
    Calls Try.prog 52 #[.agg #[.int .i64 s.d, .int .i64 s.r, .int .i64 s.f, .int .i64 s.t, .int .i64 s.w, .int .i64 s.p, .bool s.rn, .bool s.fr]] w fun e w' => e = .returned (.bool (false)) ∧ Below w.heap.size w w' := by
  have H0 := Lib.hid h0
  have HP := Lib.hid (fun W => placeValid_v s.r s.f s.w h1 W)
  have H2 := Lib.hid h2
  clear h0 h1 h2
  go_enter Try.func52, Try.ntmps52
  go_wp2_with fail
  obtain ⟨wB, hwB⟩ : ∃ wB, ((w.alloc (.cells #[.int .i64 s.d, .int .i64 s.r, .int .i64 s.f, .int .i64 s.t, .int .i64 s.w, .int .i64 s.p, .bool s.rn, .bool s.fr] 51)).alloc (.cells #[.int .i64 s.d] 3)) = wB := ⟨_, rfl⟩
  have hb : Below w.heap.size w wB := by rw [← hwB]; exact ((Below.refl _ _).alloc (by simp <;> omega) _).alloc (by simp <;> omega) _
  have hz : w.heap.size < wB.heap.size := by rw [← hwB]; simp; try omega
  have p0_0 : wB.cell? ⟨w.heap.size, 0, none⟩ = some (.int .i64 s.d) := by rw [← hwB]; simp [go_sem]
  have p0_1 : wB.cell? ⟨w.heap.size, 1, none⟩ = some (.int .i64 s.r) := by rw [← hwB]; simp [go_sem]
  have p0_2 : wB.cell? ⟨w.heap.size, 2, none⟩ = some (.int .i64 s.f) := by rw [← hwB]; simp [go_sem]
  have p0_3 : wB.cell? ⟨w.heap.size, 3, none⟩ = some (.int .i64 s.t) := by rw [← hwB]; simp [go_sem]
  have p0_4 : wB.cell? ⟨w.heap.size, 4, none⟩ = some (.int .i64 s.w) := by rw [← hwB]; simp [go_sem]
  have p0_5 : wB.cell? ⟨w.heap.size, 5, none⟩ = some (.int .i64 s.p) := by rw [← hwB]; simp [go_sem]
  have p0_6 : wB.cell? ⟨w.heap.size, 6, none⟩ = some (.bool s.rn) := by rw [← hwB]; simp [go_sem]
  have p0_7 : wB.cell? ⟨w.heap.size, 7, none⟩ = some (.bool s.fr) := by rw [← hwB]; simp [go_sem]
  have q0 : wB.cell? ⟨w.heap.size + 1, 0, none⟩ = some (.int .i64 s.d) := by rw [← hwB]; simp [go_sem]
  rw [hwB]
  clear hwB
  refine (withinN1_any _ _ s.d _ _ q0).mono ?_
  rintro e w1 ⟨rfl, hb1⟩
  rw [H0.out]
  have p0_0 := cell_below p0_0 hb1
  have p0_1 := cell_below p0_1 hb1
  have p0_2 := cell_below p0_2 hb1
  have p0_3 := cell_below p0_3 hb1
  have p0_4 := cell_below p0_4 hb1
  have p0_5 := cell_below p0_5 hb1
  have p0_6 := cell_below p0_6 hb1
  have p0_7 := cell_below p0_7 hb1
  have hb := below_onN hb hb1 hb.size
  clear q0
  go_wp2_with fail
  refine (HP.out _).mono ?_
  rintro e w2 ⟨rfl, hb2⟩
  have p0_0 := cell_below p0_0 hb2
  have p0_1 := cell_below p0_1 hb2
  have p0_2 := cell_below p0_2 hb2
  have p0_3 := cell_below p0_3 hb2
  have p0_4 := cell_below p0_4 hb2
  have p0_5 := cell_below p0_5 hb2
  have p0_6 := cell_below p0_6 hb2
  have p0_7 := cell_below p0_7 hb2
  have hb := below_onN hb hb2 hb.size
  go_wp2_with fail
  refine (withinN1_any _ _ s.t _ _ (by simp [go_sem])).mono ?_
  rintro e w3 ⟨rfl, hb3⟩
  rw [H2.out]
  have p0_0 := cell_below p0_0 (box_below hb3)
  have p0_1 := cell_below p0_1 (box_below hb3)
  have p0_2 := cell_below p0_2 (box_below hb3)
  have p0_3 := cell_below p0_3 (box_below hb3)
  have p0_4 := cell_below p0_4 (box_below hb3)
  have p0_5 := cell_below p0_5 (box_below hb3)
  have p0_6 := cell_below p0_6 (box_below hb3)
  have p0_7 := cell_below p0_7 (box_below hb3)
  have hb := below_onN hb (box_below hb3) hb.size
  go_wp2_with fail
  go_ret
  exact ⟨rfl, hb⟩
set_option maxHeartbeats 1000000 in
theorem nightValid_3 (s : Ni) (w : World) (h0 : btw s.d 0 100000 = true) (h1 : placeB s.r s.f s.w = true) (h2 : btw s.t s.f 10000000 = true) :
    Calls Try.prog 52 #[.agg #[.int .i64 s.d, .int .i64 s.r, .int .i64 s.f, .int .i64 s.t, .int .i64 s.w, .int .i64 s.p, .bool s.rn, .bool s.fr]] w fun e w' => e = .returned (.bool (btw s.p 0 100)) ∧ Below w.heap.size w w' := by
  have H0 := Lib.hid h0
  have HP := Lib.hid (fun W => placeValid_v s.r s.f s.w h1 W)
  have H2 := Lib.hid h2
  have H3 := Lib.hid (rfl : btw s.p 0 100 = btw s.p 0 100)
  clear h0 h1 h2
  go_enter Try.func52, Try.ntmps52
  go_wp2_with fail
  obtain ⟨wB, hwB⟩ : ∃ wB, ((w.alloc (.cells #[.int .i64 s.d, .int .i64 s.r, .int .i64 s.f, .int .i64 s.t, .int .i64 s.w, .int .i64 s.p, .bool s.rn, .bool s.fr] 51)).alloc (.cells #[.int .i64 s.d] 3)) = wB := ⟨_, rfl⟩
  have hb : Below w.heap.size w wB := by rw [← hwB]; exact ((Below.refl _ _).alloc (by simp <;> omega) _).alloc (by simp <;> omega) _
  have hz : w.heap.size < wB.heap.size := by rw [← hwB]; simp; try omega
  have p0_0 : wB.cell? ⟨w.heap.size, 0, none⟩ = some (.int .i64 s.d) := by rw [← hwB]; simp [go_sem]
  have p0_1 : wB.cell? ⟨w.heap.size, 1, none⟩ = some (.int .i64 s.r) := by rw [← hwB]; simp [go_sem]
  have p0_2 : wB.cell? ⟨w.heap.size, 2, none⟩ = some (.int .i64 s.f) := by rw [← hwB]; simp [go_sem]
  have p0_3 : wB.cell? ⟨w.heap.size, 3, none⟩ = some (.int .i64 s.t) := by rw [← hwB]; simp [go_sem]
  have p0_4 : wB.cell? ⟨w.heap.size, 4, none⟩ = some (.int .i64 s.w) := by rw [← hwB]; simp [go_sem]
  have p0_5 : wB.cell? ⟨w.heap.size, 5, none⟩ = some (.int .i64 s.p) := by rw [← hwB]; simp [go_sem]
  have p0_6 : wB.cell? ⟨w.heap.size, 6, none⟩ = some (.bool s.rn) := by rw [← hwB]; simp [go_sem]
  have p0_7 : wB.cell? ⟨w.heap.size, 7, none⟩ = some (.bool s.fr) := by rw [← hwB]; simp [go_sem]
  have q0 : wB.cell? ⟨w.heap.size + 1, 0, none⟩ = some (.int .i64 s.d) := by rw [← hwB]; simp [go_sem]
  rw [hwB]
  clear hwB
  refine (withinN1_any _ _ s.d _ _ q0).mono ?_
  rintro e w1 ⟨rfl, hb1⟩
  rw [H0.out]
  have p0_0 := cell_below p0_0 hb1
  have p0_1 := cell_below p0_1 hb1
  have p0_2 := cell_below p0_2 hb1
  have p0_3 := cell_below p0_3 hb1
  have p0_4 := cell_below p0_4 hb1
  have p0_5 := cell_below p0_5 hb1
  have p0_6 := cell_below p0_6 hb1
  have p0_7 := cell_below p0_7 hb1
  have hb := below_onN hb hb1 hb.size
  clear q0
  go_wp2_with fail
  refine (HP.out _).mono ?_
  rintro e w2 ⟨rfl, hb2⟩
  have p0_0 := cell_below p0_0 hb2
  have p0_1 := cell_below p0_1 hb2
  have p0_2 := cell_below p0_2 hb2
  have p0_3 := cell_below p0_3 hb2
  have p0_4 := cell_below p0_4 hb2
  have p0_5 := cell_below p0_5 hb2
  have p0_6 := cell_below p0_6 hb2
  have p0_7 := cell_below p0_7 hb2
  have hb := below_onN hb hb2 hb.size
  go_wp2_with fail
  refine (withinN1_any _ _ s.t _ _ (by simp [go_sem])).mono ?_
  rintro e w3 ⟨rfl, hb3⟩
  rw [H2.out]
  have p0_0 := cell_below p0_0 (box_below hb3)
  have p0_1 := cell_below p0_1 (box_below hb3)
  have p0_2 := cell_below p0_2 (box_below hb3)
  have p0_3 := cell_below p0_3 (box_below hb3)
  have p0_4 := cell_below p0_4 (box_below hb3)
  have p0_5 := cell_below p0_5 (box_below hb3)
  have p0_6 := cell_below p0_6 (box_below hb3)
  have p0_7 := cell_below p0_7 (box_below hb3)
  have hb := below_onN hb (box_below hb3) hb.size
  go_wp2_with fail
  refine (withinN1_any _ _ s.p _ _ (by simp [go_sem])).mono ?_
  rintro e w4 ⟨rfl, hb4⟩
  have p0_0 := cell_below p0_0 (box_below hb4)
  have p0_1 := cell_below p0_1 (box_below hb4)
  have p0_2 := cell_below p0_2 (box_below hb4)
  have p0_3 := cell_below p0_3 (box_below hb4)
  have p0_4 := cell_below p0_4 (box_below hb4)
  have p0_5 := cell_below p0_5 (box_below hb4)
  have p0_6 := cell_below p0_6 (box_below hb4)
  have p0_7 := cell_below p0_7 (box_below hb4)
  have hb := below_onN hb (box_below hb4) hb.size
  go_wp2_with fail
  go_ret
  exact ⟨rfl, hb⟩
theorem nightValid_r (s : Ni) (w : World) :
    Calls Try.prog 52 #[.agg #[.int .i64 s.d, .int .i64 s.r, .int .i64 s.f, .int .i64 s.t, .int .i64 s.w, .int .i64 s.p, .bool s.rn, .bool s.fr]] w fun e w' => e = .returned (.bool (nightB s)) ∧ Below w.heap.size w w' := by
  unfold nightB
  cases h0 : btw s.d 0 100000 with
  | false => exact nightValid_0 s w h0
  | true =>
    cases h1 : placeB s.r s.f s.w with
    | false => exact nightValid_1 s w h0 h1
    | true =>
      cases h2 : btw s.t s.f 10000000 with
      | false => exact nightValid_2 s w h0 h1 h2
      | true =>
        exact nightValid_3 s w h0 h1 h2
theorem wrongN_r (s : Ni) (w : World) :
    Calls Try.prog 51 #[.agg #[.int .i64 s.d, .int .i64 s.r, .int .i64 s.f, .int .i64 s.t, .int .i64 s.w, .int .i64 s.p, .bool s.rn, .bool s.fr]] w fun e w' => e = .returned (.bool (!(nightB s))) ∧ Below w.heap.size w w' := by
  have HV := Lib.hid (fun W => nightValid_r s W)
  generalize nightB s = v at *
  go_enter Try.func51, Try.ntmps51
  go_wp2_with fail
  have hb := (Below.refl w.heap.size w).alloc (Nat.le_refl _) (.cells #[.int .i64 s.d, .int .i64 s.r, .int .i64 s.f, .int .i64 s.t, .int .i64 s.w, .int .i64 s.p, .bool s.rn, .bool s.fr] 51)
  refine (HV.out _).mono ?_
  rintro e w1 ⟨rfl, hb1⟩
  go_wp2_with fail
  go_ret
  exact ⟨rfl, below_onN hb hb1 hb.size⟩
end Go.Proofs.Ytghlhjiomebmhaa
