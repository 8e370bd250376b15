/-
  Cuttings: the walks of the small functions of package cut and of their references. By an AI agent.
-/
import Derived.Test.YtmeoekcajmgiaaaLightA
import Derived.Test.YtmeoekcajmgiaaaCutM
import Derived.Deep.RegionHeld3
namespace Go.Proofs.Ytmeoekcajmgiaaa
set_option linter.unusedVariables false
set_option linter.unusedSimpArgs false
open Go.RowKit

theorem pos_ne {n i : Nat} {α : Type} {l : List α} (hi : i < l.length) : l ≠ [] := by rintro rfl; simp at hi
def asksOk (L : Int) (l : List (Int × Int)) (j : Nat) : Prop := (1 ≤ (gp l j).1 ∧ (gp l j).1 ≤ L) ∧ 0 ≤ (gp l j).2 ∧ (gp l j).2 ≤ 50
def CutOk (L K : Int) (l : List (Int × Int)) : Prop := (1 ≤ L ∧ L ≤ 1000) ∧ (0 ≤ K ∧ K ≤ 20) ∧ l.length ≤ 8 ∧ ∀ j, j < l.length → asksOk L l j
open Classical in
noncomputable def cutB (L K : Int) (l : List (Int × Int)) : Bool := decide (CutOk L K l)
theorem cutB_t {L K : Int} {l : List (Int × Int)} (h : CutOk L K l) : cutB L K l = true := by unfold cutB; simpa using h
theorem cutB_f {L K : Int} {l : List (Int × Int)} (h : ¬ CutOk L K l) : cutB L K l = false := by unfold cutB; simpa using h
theorem cutB_iff {L K : Int} {l : List (Int × Int)} : cutB L K l = true ↔ CutOk L K l := by unfold cutB; simp

set_option maxHeartbeats 400000 in
theorem cbt_any (n a b : Int) (w : World) :
    Calls Try.prog 32 #[.int .i64 n, .int .i64 a, .int .i64 b] w fun e w' => e = .returned (.bool (btw n a b)) ∧ w = w' := by
  by_cases h1 : a ≤ n
  · by_cases h2 : n ≤ b
    · rw [btw_t h1 h2]
      go_enter Try.func32, Try.ntmps32
      go_wp2
      go_ret
      exact ⟨rfl, rfl⟩
    · rw [btw_f (fun h => h2 h.2)]
      go_enter Try.func32, Try.ntmps32
      go_wp2
      go_ret
      exact ⟨rfl, rfl⟩
  · rw [btw_f (fun h => h1 h.1)]
    go_enter Try.func32, Try.ntmps32
    go_wp2
    go_ret
    exact ⟨rfl, rfl⟩

set_option maxHeartbeats 400000 in
theorem from_any (n a b : Int) (w : World) :
    Calls Try.prog 36 #[.int .i64 a, .int .i64 n, .int .i64 b] w fun e w' => e = .returned (.bool (btw n a b)) ∧ w = w' := by
  by_cases h1 : a ≤ n
  · by_cases h2 : n ≤ b
    · rw [btw_t h1 h2]
      go_enter Try.func36, Try.ntmps36
      go_wp2
      go_ret
      exact ⟨rfl, rfl⟩
    · rw [btw_f (fun h => h2 h.2)]
      go_enter Try.func36, Try.ntmps36
      go_wp2
      go_ret
      exact ⟨rfl, rfl⟩
  · rw [btw_f (fun h => h1 h.1)]
    go_enter Try.func36, Try.ntmps36
    go_wp2
    go_ret
    exact ⟨rfl, rfl⟩

set_option maxRecDepth 100000 in
theorem size_any (L K : Int) (aa : Option Addr) (l : List (Int × Int)) (ca : Nat) (i : Nat) (w : World) (hA : PairsS w aa l) (hi : i < l.length) (h0 : 0 ≤ (gp l i).1) (h1 : (gp l i).1 ≤ 1000) (k0 : 0 ≤ K) (k1 : K ≤ 20) :
    Calls Try.prog 16 #[.agg #[.int .i64 L, .int .i64 K, .slice aa l.length ca], .int .i64 i] w fun e w' => e = .returned (.int .i64 ((gp l i).1 + K)) ∧ Below w.heap.size w w' := by
  obtain ⟨hlen, hbd, blk, off, hadr, hc⟩ := hA
  obtain rfl := hadr (pos_ne (n := 0) hi)
  obtain ⟨c0, -⟩ := hc i hi
  have n0 := World.new_ne w _ c0
  have ws : IntKind.i64.wrap ((gp l i).1 + K) = (gp l i).1 + K := IntWalk.i64_in _ (by omega)
  have g0 : (0 : Int) ≤ (i : Int) := by omega
  have g1 : (i : Int) < (l.length : Int) := by omega
  generalize (gp l i).1 = x at *
  clear hc hbd hadr
  go_enter Try.func16, Try.ntmps16
  go_wp2_with fail
  obtain ⟨wB, hwB⟩ : ∃ wB, w.alloc (.cells #[.int .i64 L, .int .i64 K, .slice (some ⟨blk, off, none⟩) l.length ca] 24) = wB := ⟨_, rfl⟩
  have hb : Below w.heap.size w wB := by rw [← hwB]; exact (Below.refl _ _).alloc (Nat.le_refl _) _
  have p1 : wB.cell? ⟨w.heap.size, 1, none⟩ = some (.int .i64 K) := by rw [← hwB]; simp [go_sem]
  have p2 : wB.cell? ⟨w.heap.size, 2, none⟩ = some (.slice (some ⟨blk, off, none⟩) l.length ca) := by rw [← hwB]; simp [go_sem]
  have c0 := cell_below c0 hb
  rw [hwB]
  clear hwB
  go_quiet (fail)
  go_wp2_with fail
  go_ret
  exact ⟨rfl, below_drewN hb _⟩

set_option maxRecDepth 100000 in
theorem room_any (L K : Int) (aa : Option Addr) (l : List (Int × Int)) (ca : Nat) (w : World) (h0 : 0 ≤ L) (h1 : L ≤ 1000) (k0 : 0 ≤ K) (k1 : K ≤ 20) :
    Calls Try.prog 18 #[.agg #[.int .i64 L, .int .i64 K, .slice aa l.length ca]] w fun e w' => e = .returned (.int .i64 (L + K)) ∧ Below w.heap.size w w' := by
  have ws : IntKind.i64.wrap (L + K) = L + K := IntWalk.i64_in _ (by omega)
  go_enter Try.func18, Try.ntmps18
  go_wp2_with fail
  go_ret
  exact ⟨rfl, (Below.refl _ _).alloc (Nat.le_refl _) _⟩

/-- The closure of Valid: an ask is out of range. -/
theorem valid1_any (x y L : Int) (b : Nat) (w : World) (hL : w.cell? ⟨b, 0, none⟩ = some (.int .i64 L)) :
    Calls Try.prog 34 #[.agg #[.int .i64 x, .int .i64 y], .pointer (some ⟨b, 0, none⟩)] w fun e w' => e = .returned (.bool (!(btw x 1 L && btw y 0 50))) ∧ Below w.heap.size w w' := by
  have n0 : b < w.heap.size := block_lt hL
  have n1 : b ≠ w.heap.size := by omega
  cases h : btw x 1 L with
  | true =>
    have H := Lib.hid h
    cases h2 : btw y 0 50 with
    | true =>
      have H2 := Lib.hid h2
      clear h h2
      go_enter Try.func34, Try.ntmps34
      go_wp2_with (go_at_call 32; refine (cbt_any _ _ _ _).mono ?_; rintro e w' ⟨rfl, rfl⟩; first | rw [H.out] | rw [H2.out])
      go_ret
      exact ⟨rfl, (Below.refl _ _).alloc (Nat.le_refl _) _⟩
    | false =>
      have H2 := Lib.hid h2
      clear h h2
      go_enter Try.func34, Try.ntmps34
      go_wp2_with (go_at_call 32; refine (cbt_any _ _ _ _).mono ?_; rintro e w' ⟨rfl, rfl⟩; first | rw [H.out] | rw [H2.out])
      go_ret
      exact ⟨rfl, (Below.refl _ _).alloc (Nat.le_refl _) _⟩
  | false =>
    have H := Lib.hid h
    clear h
    go_enter Try.func34, Try.ntmps34
    go_wp2_with (go_at_call 32; refine (cbt_any _ _ _ _).mono ?_; rintro e w' ⟨rfl, rfl⟩; rw [H.out])
    go_ret
    exact ⟨rfl, (Below.refl _ _).alloc (Nat.le_refl _) _⟩

/-- Whether one of the first k elements is such. -/
def anyK (p : Nat → Bool) : Nat → Bool
  | 0 => false
  | k + 1 => anyK p k || p k
theorem anyK_false {p : Nat → Bool} : ∀ k, (∀ j, j < k → p j = false) → anyK p k = false
  | 0, _ => rfl
  | k + 1, h => by rw [anyK, anyK_false k (fun j hj => h j (by omega)), h k (by omega)]; rfl
theorem anyK_true {p : Nat → Bool} {j : Nat} (h : p j = true) : ∀ k, j < k → anyK p k = true
  | k + 1, hj => by
    rw [anyK]
    by_cases e : j = k
    · subst e; rw [h, Bool.or_true]
    · rw [anyK_true h k (by omega), Bool.true_or]
theorem anyK_iff {p : Nat → Bool} : ∀ k, anyK p k = false ↔ ∀ j, j < k → p j = false
  | 0 => by simp [anyK]
  | k + 1 => by
    rw [anyK, Bool.or_eq_false_iff, anyK_iff k]
    constructor
    · intro h j hj
      by_cases e : j = k
      · subst e; exact h.2
      · exact h.1 j (by omega)
    · intro h; exact ⟨fun j hj => h j (by omega), h k (by omega)⟩
/-- The place of the first of n elements that is such, or -1. -/
def idxK (p : Nat → Bool) : Nat → Int
  | 0 => -1
  | k + 1 => if idxK p k = -1 then (if p k then (k : Int) else -1) else idxK p k
theorem idxK_any (p : Nat → Bool) : ∀ k, decide (0 ≤ idxK p k) = anyK p k
  | 0 => by simp [idxK, anyK]
  | k + 1 => by
    have ih := idxK_any p k
    rw [idxK, anyK, ← ih]
    have hh : idxK p k = -1 ∨ 0 ≤ idxK p k := by
      clear ih
      induction k with
      | zero => left; rfl
      | succ k ih =>
        rw [idxK]
        rcases ih with h | h
        · rw [if_pos h]; split
          · right; omega
          · left; rfl
        · rw [if_neg (by omega)]; right; exact h
    rcases hh with h | h
    · rw [if_pos h, h]
      cases p k <;> simp
    · rw [if_neg (by omega)]
      simp [h]
theorem idxK_hit {p : Nat → Bool} {k : Nat} (h : p k = true) (hb : ∀ j, j < k → p j = false) : ∀ n, k < n → idxK p n = k
  | n + 1, hn => by
    rw [idxK]
    by_cases e : k = n
    · subst e
      have : idxK p k = -1 := by
        have := idxK_any p k
        rw [anyK_false k hb, decide_eq_false_iff_not] at this
        clear h hn
        induction k with
        | zero => rfl
        | succ k ih =>
          have i2 := ih (fun j hj => hb j (by omega)) (by
            intro h0
            have h1 := idxK_any p k
            rw [anyK_false k (fun j hj => hb j (by omega)), decide_eq_false_iff_not] at h1
            exact h1 h0)
          rw [idxK, i2, if_pos rfl, hb k (by omega)]; rfl
      rw [if_pos this, if_pos h]
    · rw [idxK_hit h hb n (by omega), if_neg (by omega)]
theorem idxK_miss {p : Nat → Bool} : ∀ n, (∀ j, j < n → p j = false) → idxK p n = -1
  | 0, _ => rfl
  | n + 1, h => by rw [idxK, idxK_miss n (fun j hj => h j (by omega)), if_pos rfl, h n (by omega)]; rfl

set_option maxRecDepth 100000 in
set_option maxHeartbeats 1000000 in
/-- slices.IndexFunc of asks: each call of the closure answers p. -/
theorem idxAsk_any (aa : Option Addr) (l : List (Int × Int)) (ca : Nat) (lb : Array Value) (p : Nat → Bool) (w : World) (hA : PairsS w aa l)
    (hp : ∀ j W, j < l.length → Below w.heap.size w W → Calls Try.prog 34 (#[.agg #[.int .i64 (gp l j).1, .int .i64 (gp l j).2]] ++ lb) W fun e w' => e = .returned (.bool (p j)) ∧ Below W.heap.size W w') :
    Calls Try.prog 49 #[.slice aa l.length ca, .func (.func 34) #[] lb] w fun e w' => e = .returned (.int .i64 (idxK p l.length)) ∧ Below w.heap.size w w' := by
  obtain ⟨hlen, hbd, blk, off, hadr, hc⟩ := hA
  have HP := Lib.hid hp
  have HC := Lib.hid hc
  have HH : Hid (∀ k, k < l.length → p k = true → (∀ j, j < k → p j = false) → idxK p l.length = k) := Lib.hid fun k hk h hb => idxK_hit h hb _ hk
  have HM : Hid ((∀ j, j < l.length → p j = false) → idxK p l.length = -1) := Lib.hid fun h => idxK_miss _ h
  have HL : Hid (0 < l.length → aa = some ⟨blk, off, none⟩) := Lib.hid fun h => hadr (pos_ne (n := 0) h)
  generalize idxK p l.length = R at *
  clear hp hc hbd hadr
  go_enter Try.func49, Try.ntmps49
  go_wp2_with fail
  go_loopw [8] (fun i wr => ∃ k : Nat, k ≤ l.length ∧ i = .int .i64 k ∧ Below w.heap.size w wr ∧ Hid (∀ j, j < k → p j = false)) (fun i _ => l.length - (intOf i).toNat)
  case atStart => exact ⟨0, Nat.zero_le _, rfl, Below.refl _ _, Lib.hid fun j hj => absurd hj (Nat.not_lt_zero _)⟩
  case round =>
    obtain ⟨k, hk, rfl, hb, HA⟩ := hrel
    by_cases hlt : k < l.length
    · obtain rfl := HL.out (by omega)
      have c0 := cell_below (HC.out k hlt).1 hb
      have c1 := cell_below (HC.out k hlt).2 hb
      have HK := Lib.hid (fun W => HP.out k W hlt)
      have HHk := Lib.hid (HH.out k hlt)
      have HN : Hid (p k = false → ∀ j, j < k + 1 → p j = false) := Lib.hid fun h j hj => by
        by_cases e : j = k
        · subst e; exact h
        · exact HA.out j (by omega)
      clear HP HC HM HL HH
      generalize (gp l k).1 = x at *
      generalize (gp l k).2 = y at *
      cases hpk : p k with
      | true =>
        have HR := Lib.hid (HHk.out hpk HA.out)
        rw [hpk] at HK
        clear hpk HHk HN
        go_wp2_with fail
        refine (HK.out _ hb).mono ?_
        rintro e w1 ⟨rfl, hb1⟩
        go_wp2_with fail
        go_ret
        rw [HR.out]
        exact ⟨rfl, hb.trans (hb1.mono hb.size)⟩
      | false =>
        have HR := Lib.hid (HN.out hpk)
        rw [hpk] at HK
        clear hpk HHk HN
        go_wp2_with fail
        refine (HK.out _ hb).mono ?_
        rintro e w1 ⟨rfl, hb1⟩
        go_wp2_with fail
        go_roundw
        case rel => exact ⟨k + 1, by omega, by go_num, hb.trans (hb1.mono hb.size), HR⟩
        case measure => simp [intOf]; omega
    · obtain rfl : k = l.length := by omega
      have HR := Lib.hid (HM.out HA.out)
      go_wp2_with fail
      go_ret
      rw [HR.out]
      exact ⟨rfl, hb⟩

set_option maxRecDepth 100000 in
theorem containsAsk_any (aa : Option Addr) (l : List (Int × Int)) (ca : Nat) (lb : Array Value) (p : Nat → Bool) (w : World) (hA : PairsS w aa l)
    (hp : ∀ j W, j < l.length → Below w.heap.size w W → Calls Try.prog 34 (#[.agg #[.int .i64 (gp l j).1, .int .i64 (gp l j).2]] ++ lb) W fun e w' => e = .returned (.bool (p j)) ∧ Below W.heap.size W w') :
    Calls Try.prog 33 #[.slice aa l.length ca, .func (.func 34) #[] lb] w fun e w' => e = .returned (.bool (anyK p l.length)) ∧ Below w.heap.size w w' := by
  have H := Lib.hid (idxAsk_any aa l ca lb p w hA hp)
  have hq := Lib.hid (idxK_any p l.length)
  clear hp hA
  generalize idxK p l.length = R at *
  generalize anyK p l.length = B at *
  have hq := hq.out
  subst hq
  go_enter Try.func33, Try.ntmps33
  go_wp2_with fail
  refine H.out.mono ?_
  rintro e w1 ⟨rfl, hb1⟩
  go_wp2_with fail
  all_goals
    go_ret
    exact ⟨by simp_all, hb1⟩

set_option maxRecDepth 100000 in
set_option maxHeartbeats 1000000 in
theorem Valid_any (L K : Int) (aa : Option Addr) (l : List (Int × Int)) (ca : Nat) (w : World) (hA : PairsS w aa l) :
    Calls Try.prog 15 #[.agg #[.int .i64 L, .int .i64 K, .slice aa l.length ca]] w fun e w' => e = .returned (.bool (cutB L K l)) ∧ Below w.heap.size w w' := by
  have hlen := hA.1
  by_cases h1 : 1 ≤ L ∧ L ≤ 1000
  · have HB1 := Lib.hid (btw_t h1.1 h1.2)
    by_cases h2 : 0 ≤ K ∧ K ≤ 20
    · have HB2 := Lib.hid (btw_t h2.1 h2.2)
      by_cases h3 : l.length ≤ 8
      · have h4 : ¬ (8 : Int) < l.length := by omega
        obtain ⟨wB, hwB⟩ : ∃ wB, w.alloc (.cells #[.int .i64 L, .int .i64 K, .slice aa l.length ca] 24) = wB := ⟨_, rfl⟩
        have hb : Below w.heap.size w wB := by rw [← hwB]; exact (Below.refl _ _).alloc (Nat.le_refl _) _
        have p0 : wB.cell? ⟨w.heap.size, 0, none⟩ = some (.int .i64 L) := by rw [← hwB]; simp [go_sem]
        have hz := block_lt p0
        have HC := Lib.hid (containsAsk_any aa l ca #[.pointer (some ⟨w.heap.size, 0, none⟩)] (fun j => !(btw (gp l j).1 1 L && btw (gp l j).2 0 50)) wB (hA.below hb) fun j W hj hW => valid1_any _ _ L w.heap.size W ((hW.cell (p := ⟨w.heap.size, 0, none⟩) hz).trans p0))
        have hv : cutB L K l = !(anyK (fun j => !(btw (gp l j).1 1 L && btw (gp l j).2 0 50)) l.length) := by
          cases h : anyK (fun j => !(btw (gp l j).1 1 L && btw (gp l j).2 0 50)) l.length with
          | false =>
            refine cutB_t ⟨h1, h2, h3, fun j hj => ?_⟩
            have := (anyK_iff _).1 h j hj
            simp only [Bool.not_eq_false', Bool.and_eq_true, btw_iff] at this
            exact this
          | true =>
            refine cutB_f fun g => ?_
            rw [(anyK_iff _).2 fun j hj => ?_] at h
            · cases h
            · have := g.2.2.2 j hj
              unfold asksOk at this
              simp only [Bool.not_eq_false', Bool.and_eq_true, btw_iff]
              exact this
        rw [hv]
        subst hwB
        clear hv p0
        generalize anyK (fun j => !(btw (gp l j).1 1 L && btw (gp l j).2 0 50)) l.length = R at *
        clear hA
        go_enter Try.func15, Try.ntmps15
        go_wp2_with (go_at_call 32; refine (cbt_any _ _ _ _).mono ?_; rintro e w' ⟨rfl, rfl⟩; first | rw [HB1.out] | rw [HB2.out])
        refine HC.out.mono ?_
        rintro e w1 ⟨rfl, hb1⟩
        go_wp2_with fail
        all_goals
          go_ret
          exact ⟨by simp_all, box_below hb1⟩
      · have h4 : (8 : Int) < l.length := by omega
        rw [cutB_f fun h => h3 h.2.2.1]
        clear hA
        go_enter Try.func15, Try.ntmps15
        go_wp2_with (go_at_call 32; refine (cbt_any _ _ _ _).mono ?_; rintro e w' ⟨rfl, rfl⟩; first | rw [HB1.out] | rw [HB2.out])
        go_ret
        exact ⟨rfl, (Below.refl _ _).alloc (Nat.le_refl _) _⟩
    · have HB2 := Lib.hid (btw_f h2)
      rw [cutB_f fun h => h2 h.2.1]
      clear hA h2
      go_enter Try.func15, Try.ntmps15
      go_wp2_with (go_at_call 32; refine (cbt_any _ _ _ _).mono ?_; rintro e w' ⟨rfl, rfl⟩; first | rw [HB1.out] | rw [HB2.out])
      go_ret
      exact ⟨rfl, (Below.refl _ _).alloc (Nat.le_refl _) _⟩
  · have HB1 := Lib.hid (btw_f h1)
    have HB2 := HB1
    rw [cutB_f fun h => h1 h.1]
    clear hA h1
    go_enter Try.func15, Try.ntmps15
    go_wp2_with (go_at_call 32; refine (cbt_any _ _ _ _).mono ?_; rintro e w' ⟨rfl, rfl⟩; first | rw [HB1.out] | rw [HB2.out])
    go_ret
    exact ⟨rfl, (Below.refl _ _).alloc (Nat.le_refl _) _⟩
end Go.Proofs.Ytmeoekcajmgiaaa
