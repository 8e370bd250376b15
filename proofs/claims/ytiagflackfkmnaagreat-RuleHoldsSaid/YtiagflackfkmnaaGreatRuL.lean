/-
  Small functions of package rule on signs. By an AI agent.
-/
import Derived.Test.YtiagflackfkmnaaGreatRuK
import Derived.Deep.RegionHeld3
import Derived.BigQuiet
import Derived.BigRegion
namespace Go.Proofs.YtiagflackfkmnaaGreat
set_option linter.unusedVariables false
set_option linter.unusedSimpArgs false
open Go.RowKit

/-- The topic of which a kind is a start. -/
def topK (k : Int) : Int := if k = 1 then 1 else if k = 3 then 2 else 0
/-- Is a kind an end of a topic? -/
def endB (k t : Int) : Bool := k == 5 || (k == 2 && t == 1) || (k == 4 && t == 2)
/-- The value of a start. -/
def strK (k v : Int) : Int := if k = 3 then 1 else v
def dstK (L dir c : Int) : Int := if dir = 1 then c else L - c
def begK (L dir m : Int) : Int := if dir = 1 then m else L - 1 - m
theorem topicOf_r (k : Int) (w : World) : Calls Tryz.prog 87 #[.int .i64 k] w fun e w' => e = .returned (.int .i64 (topK k)) ∧ w = w' := by
  by_cases h1 : k = 1
  · subst h1
    go_enter Tryz.func87, Tryz.ntmps87
    go_wp2_with fail
    go_ret
    exact ⟨rfl, rfl⟩
  · by_cases h2 : k = 3
    · subst h2
      go_enter Tryz.func87, Tryz.ntmps87
      go_wp2_with fail
      go_ret
      exact ⟨rfl, rfl⟩
    · have hr : Hid (topK k = 0) := Lib.hid (by unfold topK; simp [h1, h2])
      go_enter Tryz.func87, Tryz.ntmps87
      go_wp2_with fail
      go_ret
      exact ⟨by rw [hr.out]; rfl, rfl⟩
set_option maxRecDepth 100000 in
theorem isEnd_r (k t : Int) (w : World) : Calls Tryz.prog 92 #[.int .i64 k, .int .i64 t] w fun e w' => e = .returned (.bool (endB k t)) ∧ w = w' := by
  by_cases h5 : k = 5
  · subst h5
    have hr : Hid (endB 5 t = true) := Lib.hid (by unfold endB; simp)
    go_enter Tryz.func92, Tryz.ntmps92
    go_wp2_with fail
    go_ret
    exact ⟨by rw [hr.out]; rfl, rfl⟩
  · by_cases h2 : k = 2
    · subst h2
      by_cases g1 : t = 1
      · subst g1
        go_enter Tryz.func92, Tryz.ntmps92
        go_wp2_with fail
        go_ret
        exact ⟨rfl, rfl⟩
      · have hr : Hid (endB 2 t = false) := Lib.hid (by unfold endB; simp [g1])
        have b1 : (t == 1) = false := beq_false_of_ne g1
        go_enter Tryz.func92, Tryz.ntmps92
        go_wp2_with fail
        go_ret
        exact ⟨by rw [hr.out]; rfl, rfl⟩
    · by_cases h4 : k = 4
      · subst h4
        by_cases g2 : t = 2
        · subst g2
          go_enter Tryz.func92, Tryz.ntmps92
          go_wp2_with fail
          go_ret
          exact ⟨rfl, rfl⟩
        · have hr : Hid (endB 4 t = false) := Lib.hid (by unfold endB; simp [g2])
          have b1 : (t == 2) = false := beq_false_of_ne g2
          go_enter Tryz.func92, Tryz.ntmps92
          go_wp2_with fail
          go_ret
          exact ⟨by rw [hr.out]; rfl, rfl⟩
      · have hr : Hid (endB k t = false) := Lib.hid (by unfold endB; simp [h5, h2, h4])
        have b5 : (k == 5) = false := beq_false_of_ne h5
        have b2 : (k == 2) = false := beq_false_of_ne h2
        have b4 : (k == 4) = false := beq_false_of_ne h4
        go_enter Tryz.func92, Tryz.ntmps92
        go_wp2_with fail
        go_ret
        exact ⟨by rw [hr.out]; rfl, rfl⟩
theorem distance_r (L : Int) (a : Option Addr) (n ca : Nat) (dir c : Int) (hL1 : 0 ≤ L) (hL2 : L ≤ 100000) (hc1 : -1000000 ≤ c) (hc2 : c ≤ 1000000) (w : World) :
    Calls Tryz.prog 80 #[.agg #[.int .i64 L, .slice a n ca], .int .i64 dir, .int .i64 c] w fun e w' => e = .returned (.int .i64 (dstK L dir c)) ∧ Below w.heap.size w w' := by
  by_cases h1 : dir = 1
  · subst h1
    have hr : Hid (dstK L 1 c = c) := Lib.hid (by unfold dstK; simp)
    go_enter Tryz.func80, Tryz.ntmps80
    go_wp2_with fail
    go_ret
    exact ⟨by rw [hr.out]; rfl, (Below.refl _ _).alloc (Nat.le_refl _) _⟩
  · have hr : Hid (dstK L dir c = L - c) := Lib.hid (by unfold dstK; simp [h1])
    go_enter Tryz.func80, Tryz.ntmps80
    go_wp2_with fail
    go_ret
    exact ⟨by rw [hr.out]; rfl, (Below.refl _ _).alloc (Nat.le_refl _) _⟩
theorem beginOf_r (L : Int) (a : Option Addr) (n ca : Nat) (dir c : Int) (hL1 : 0 ≤ L) (hL2 : L ≤ 100000) (hc1 : -1000000 ≤ c) (hc2 : c ≤ 1000000) (w : World) :
    Calls Tryz.prog 54 #[.agg #[.int .i64 L, .slice a n ca], .int .i64 dir, .int .i64 c] w fun e w' => e = .returned (.int .i64 (begK L dir c)) ∧ Below w.heap.size w w' := by
  by_cases h1 : dir = 1
  · subst h1
    have hr : Hid (begK L 1 c = c) := Lib.hid (by unfold begK; simp)
    go_enter Tryz.func54, Tryz.ntmps54
    go_wp2_with fail
    go_ret
    exact ⟨by rw [hr.out]; rfl, (Below.refl _ _).alloc (Nat.le_refl _) _⟩
  · have hr : Hid (begK L dir c = L - 1 - c) := Lib.hid (by unfold begK; simp [h1])
    go_enter Tryz.func54, Tryz.ntmps54
    go_wp2_with fail
    go_ret
    exact ⟨by rw [hr.out]; rfl, (Below.refl _ _).alloc (Nat.le_refl _) _⟩
/-- Does a cover hold an hour? -/
def covH (p : Spn) (h : Int) : Bool := decide (p.1 ≤ h) && decide (h < p.2)
/-- Does a sign speak at an hour? -/
def spkB (s : Sgn) (h : Int) : Bool := decide (s.up ≤ h) && decide (h < s.dn) && !(anyK (fun j => covH (gp s.cv j) h) s.cv.length)
set_option maxRecDepth 100000 in
set_option maxHeartbeats 1000000 in
theorem idxSp_any (aa : Option Addr) (l : List (Spn)) (ca : Nat) (lb : Array Value) (p : Nat → Bool) (w : World) (hA : PairsS w aa l)
    (hp : ∀ j W, j < l.length → Below w.heap.size w W → Calls Tryz.prog 43 (#[.agg #[.int .i64 (gp l j).1, .int .i64 (gp l j).2]] ++ lb) W fun e w' => e = .returned (.bool (p j)) ∧ Below W.heap.size W w') :
    Calls Tryz.prog 75 #[.slice aa l.length ca, .func (.func 43) #[] lb] w fun e w' => e = .returned (.int .i64 (idxK p l.length)) ∧ Below w.heap.size w w' := by
  obtain ⟨hlen, -, blk, off, hadr, hc⟩ := hA
  have HP := Lib.hid hp
  have HC := Lib.hid hc
  have HH : Hid (∀ k, k < l.length → p k = true → (∀ j, j < k → p j = false) → idxK p l.length = k) := Lib.hid fun k hk h hb => idxK_hit h hb _ hk
  have HM : Hid ((∀ j, j < l.length → p j = false) → idxK p l.length = -1) := Lib.hid fun h => idxK_miss _ h
  have HL : Hid (0 < l.length → aa = some ⟨blk, off, none⟩) := Lib.hid fun h => hadr (pos_ne (n := 0) h)
  generalize idxK p l.length = R at *
  clear hp hc hadr
  go_enter Tryz.func75, Tryz.ntmps75
  go_wp2_with fail
  go_loopw [8] (fun i wr => ∃ k : Nat, k ≤ l.length ∧ i = .int .i64 k ∧ Below w.heap.size w wr ∧ Hid (∀ j, j < k → p j = false)) (fun i _ => l.length - (intOf i).toNat)
  case atStart => exact ⟨0, Nat.zero_le _, rfl, Below.refl _ _, Lib.hid fun j hj => absurd hj (Nat.not_lt_zero _)⟩
  case round =>
    obtain ⟨k, hk, rfl, hb, HA⟩ := hrel
    by_cases hlt : k < l.length
    · obtain rfl := HL.out (by omega)
      obtain ⟨c0, c1⟩ := HC.out k hlt
      have c0 := cell_below c0 hb
      have c1 := cell_below c1 hb
      have HK := Lib.hid (fun W => HP.out k W hlt)
      have HHk := Lib.hid (HH.out k hlt)
      have HN : Hid (p k = false → ∀ j, j < k + 1 → p j = false) := Lib.hid fun h j hj => by
        by_cases e : j = k
        · subst e; exact h
        · exact HA.out j (by omega)
      clear HP HC HM HL HH
      generalize (gp l k).1 = x0 at *
      generalize (gp l k).2 = x1 at *
      cases hpk : p k with
      | true =>
        have HR := Lib.hid (HHk.out hpk HA.out)
        rw [hpk] at HK
        clear hpk HHk HN
        go_wp2_with fail
        refine (HK.out _ hb).mono ?_
        rintro e w1 ⟨rfl, hb1⟩
        go_wp2_with fail
        go_ret
        rw [HR.out]
        exact ⟨rfl, hb.trans (hb1.mono hb.size)⟩
      | false =>
        have HR := Lib.hid (HN.out hpk)
        rw [hpk] at HK
        clear hpk HHk HN
        go_wp2_with fail
        refine (HK.out _ hb).mono ?_
        rintro e w1 ⟨rfl, hb1⟩
        go_wp2_with fail
        go_roundw
        case rel => exact ⟨k + 1, by omega, by go_num, hb.trans (hb1.mono hb.size), HR⟩
        case measure => simp [intOf]; omega
    · obtain rfl : k = l.length := by omega
      have HR := Lib.hid (HM.out HA.out)
      go_wp2_with fail
      go_ret
      rw [HR.out]
      exact ⟨rfl, hb⟩

set_option maxRecDepth 100000 in
theorem containsSp_any (aa : Option Addr) (l : List (Spn)) (ca : Nat) (lb : Array Value) (p : Nat → Bool) (w : World) (hA : PairsS w aa l)
    (hp : ∀ j W, j < l.length → Below w.heap.size w W → Calls Tryz.prog 43 (#[.agg #[.int .i64 (gp l j).1, .int .i64 (gp l j).2]] ++ lb) W fun e w' => e = .returned (.bool (p j)) ∧ Below W.heap.size W w') :
    Calls Tryz.prog 42 #[.slice aa l.length ca, .func (.func 43) #[] lb] w fun e w' => e = .returned (.bool (anyK p l.length)) ∧ Below w.heap.size w w' := by
  have H := Lib.hid (idxSp_any aa l ca lb p w hA hp)
  have hq := Lib.hid (idxK_any p l.length)
  clear hp hA
  generalize idxK p l.length = R at *
  generalize anyK p l.length = B at *
  have hq := hq.out
  subst hq
  go_enter Tryz.func42, Tryz.ntmps42
  go_wp2_with fail
  refine H.out.mono ?_
  rintro e w1 ⟨rfl, hb1⟩
  go_wp2_with fail
  all_goals
    go_ret
    exact ⟨by simp_all, hb1⟩

theorem spk1_r (x y h : Int) (B : Nat) (w : World) (hB : B < w.heap.size) (c0 : w.cell? ⟨B, 0, none⟩ = some (.int .i64 h)) :
    Calls Tryz.prog 43 (#[.agg #[.int .i64 x, .int .i64 y]] ++ #[.pointer (some ⟨B, 0, none⟩)]) w fun e w' => e = .returned (.bool (covH (x, y) h)) ∧ Below w.heap.size w w' := by
  have q0 : ∀ c t, (w.alloc (.cells c t)).cell? ⟨B, 0, none⟩ = some (.int .i64 h) := fun c t => (((Below.refl w.heap.size w).alloc (Nat.le_refl _) _).cell (p := ⟨B, 0, none⟩) hB).trans c0
  by_cases h1 : x ≤ h
  · by_cases h2 : h < y
    · have hr : Hid (covH (x, y) h = true) := Lib.hid (by simp [covH, h1, h2])
      have d1 : decide (x ≤ h) = true := decide_eq_true h1
      go_enter Tryz.func43, Tryz.ntmps43
      go_wp2_with fail
      go_ret
      exact ⟨by rw [hr.out]; rfl, (Below.refl _ _).alloc (Nat.le_refl _) _⟩
    · have hr : Hid (covH (x, y) h = false) := Lib.hid (by simp [covH, h2])
      have d1 : decide (x ≤ h) = true := decide_eq_true h1
      go_enter Tryz.func43, Tryz.ntmps43
      go_wp2_with fail
      go_ret
      exact ⟨by rw [hr.out]; rfl, (Below.refl _ _).alloc (Nat.le_refl _) _⟩
  · have hr : Hid (covH (x, y) h = false) := Lib.hid (by simp [covH, h1])
    have d1 : decide (x ≤ h) = false := decide_eq_false h1
    go_enter Tryz.func43, Tryz.ntmps43
    go_wp2_with fail
    go_ret
    exact ⟨by rw [hr.out]; rfl, (Below.refl _ _).alloc (Nat.le_refl _) _⟩
set_option maxRecDepth 100000 in
set_option maxHeartbeats 1000000 in
theorem Speaks_r (s : Sgn) (ad : Option Addr) (cp : Nat) (h : Int) (w : World) (hP : PairsS w ad s.cv) :
    Calls Tryz.prog 13 #[.agg #[.int .i64 s.n, .int .i64 s.k, .int .i64 s.v, .int .i64 s.c, .int .i64 s.d, .int .i64 s.rk, .int .i64 s.up, .int .i64 s.dn, .slice ad s.cv.length cp], .int .i64 h] w fun e w' => e = .returned (.bool (spkB s h)) ∧ Below w.heap.size w w' := by
  have H5 := Lib.hid (fun W (hW : Below w.heap.size w W) (hB : w.heap.size + 1 < W.heap.size) (c0 : W.cell? ⟨w.heap.size + 1, 0, none⟩ = some (.int .i64 h)) => containsSp_any ad s.cv cp #[.pointer (some ⟨w.heap.size + 1, 0, none⟩)] (fun j => covH (gp s.cv j) h) W (hP.below hW) (fun j W' _ hW' => spk1_r _ _ h _ W' (Nat.lt_of_lt_of_le hB hW'.size) (cell_below c0 hW')))
  have hlen := hP.1
  have HV : Hid (spkB s h = (decide (s.up ≤ h) && decide (h < s.dn) && !(anyK (fun j => covH (gp s.cv j) h) s.cv.length))) := Lib.hid rfl
  clear hP
  by_cases h1 : s.up ≤ h
  · have d1 : decide (s.up ≤ h) = true := decide_eq_true h1
    by_cases h2 : h < s.dn
    · have HR : Hid (spkB s h = !(anyK (fun j => covH (gp s.cv j) h) s.cv.length)) := Lib.hid (by rw [HV.out, decide_eq_true h1, decide_eq_true h2]; simp)
      generalize anyK (fun j => covH (gp s.cv j) h) s.cv.length = B at *
      clear HV
      go_enter Tryz.func13, Tryz.ntmps13
      go_wp2_with fail
      obtain ⟨wB, hwB⟩ : ∃ wB, (w.alloc (.cells #[.int .i64 s.n, .int .i64 s.k, .int .i64 s.v, .int .i64 s.c, .int .i64 s.d, .int .i64 s.rk, .int .i64 s.up, .int .i64 s.dn, .slice ad s.cv.length cp] 34)).alloc (.cells #[.int .i64 h] 3) = wB := ⟨_, rfl⟩
      have hb : Below w.heap.size w wB := by rw [← hwB]; exact ((Below.refl _ _).alloc (Nat.le_refl _) _).alloc (by simp) _
      have hz : w.heap.size + 1 < wB.heap.size := by rw [← hwB]; simp
      have p0 : wB.cell? ⟨w.heap.size + 1, 0, none⟩ = some (.int .i64 h) := by rw [← hwB]; simp [go_sem]
      have q6 : wB.cell? ⟨w.heap.size, 6, none⟩ = some (.int .i64 s.up) := by rw [← hwB]; simp [go_sem]
      have q7 : wB.cell? ⟨w.heap.size, 7, none⟩ = some (.int .i64 s.dn) := by rw [← hwB]; simp [go_sem]
      have q8 : wB.cell? ⟨w.heap.size, 8, none⟩ = some (.slice ad s.cv.length cp) := by rw [← hwB]; simp [go_sem]
      rw [hwB]
      clear hwB
      go_wp2_with fail
      refine (H5.out _ hb hz p0).mono ?_
      rintro e w8 ⟨rfl, hb8⟩
      go_wp2_with fail
      go_ret
      exact ⟨by rw [HR.out]; cases B <;> rfl, below_onR hb hb8⟩
    · have HR : Hid (spkB s h = false) := Lib.hid (by rw [HV.out, decide_eq_false h2]; simp)
      clear HV H5
      go_enter Tryz.func13, Tryz.ntmps13
      go_wp2_with fail
      obtain ⟨wB, hwB⟩ : ∃ wB, (w.alloc (.cells #[.int .i64 s.n, .int .i64 s.k, .int .i64 s.v, .int .i64 s.c, .int .i64 s.d, .int .i64 s.rk, .int .i64 s.up, .int .i64 s.dn, .slice ad s.cv.length cp] 34)).alloc (.cells #[.int .i64 h] 3) = wB := ⟨_, rfl⟩
      have hb : Below w.heap.size w wB := by rw [← hwB]; exact ((Below.refl _ _).alloc (Nat.le_refl _) _).alloc (by simp) _
      have hz : w.heap.size + 1 < wB.heap.size := by rw [← hwB]; simp
      have p0 : wB.cell? ⟨w.heap.size + 1, 0, none⟩ = some (.int .i64 h) := by rw [← hwB]; simp [go_sem]
      have q6 : wB.cell? ⟨w.heap.size, 6, none⟩ = some (.int .i64 s.up) := by rw [← hwB]; simp [go_sem]
      have q7 : wB.cell? ⟨w.heap.size, 7, none⟩ = some (.int .i64 s.dn) := by rw [← hwB]; simp [go_sem]
      have q8 : wB.cell? ⟨w.heap.size, 8, none⟩ = some (.slice ad s.cv.length cp) := by rw [← hwB]; simp [go_sem]
      rw [hwB]
      clear hwB
      go_wp2_with fail
      go_ret
      exact ⟨by rw [HR.out]; rfl, hb⟩
  · have d1 : decide (s.up ≤ h) = false := decide_eq_false h1
    have HR : Hid (spkB s h = false) := Lib.hid (by rw [HV.out, decide_eq_false h1]; simp)
    clear HV H5
    go_enter Tryz.func13, Tryz.ntmps13
    go_wp2_with fail
    obtain ⟨wB, hwB⟩ : ∃ wB, (w.alloc (.cells #[.int .i64 s.n, .int .i64 s.k, .int .i64 s.v, .int .i64 s.c, .int .i64 s.d, .int .i64 s.rk, .int .i64 s.up, .int .i64 s.dn, .slice ad s.cv.length cp] 34)).alloc (.cells #[.int .i64 h] 3) = wB := ⟨_, rfl⟩
    have hb : Below w.heap.size w wB := by rw [← hwB]; exact ((Below.refl _ _).alloc (Nat.le_refl _) _).alloc (by simp) _
    have hz : w.heap.size + 1 < wB.heap.size := by rw [← hwB]; simp
    have p0 : wB.cell? ⟨w.heap.size + 1, 0, none⟩ = some (.int .i64 h) := by rw [← hwB]; simp [go_sem]
    have q6 : wB.cell? ⟨w.heap.size, 6, none⟩ = some (.int .i64 s.up) := by rw [← hwB]; simp [go_sem]
    have q7 : wB.cell? ⟨w.heap.size, 7, none⟩ = some (.int .i64 s.dn) := by rw [← hwB]; simp [go_sem]
    have q8 : wB.cell? ⟨w.heap.size, 8, none⟩ = some (.slice ad s.cv.length cp) := by rw [← hwB]; simp [go_sem]
    rw [hwB]
    clear hwB
    go_wp2_with fail
    go_ret
    exact ⟨by rw [HR.out]; rfl, hb⟩
end Go.Proofs.YtiagflackfkmnaaGreat
