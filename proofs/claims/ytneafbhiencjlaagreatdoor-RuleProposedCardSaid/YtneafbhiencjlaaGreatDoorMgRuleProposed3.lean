/-
  listsError of package rule. By an AI agent.; Small functions of package rule on signs. By an AI agent.; openUntil; rows of signs with their distances; holdsAt of package rule. By an AI agent.; holdsAt of package rule. By an AI agent.; parts of ints of package rule. By an AI agent.
-/
import Derived.Test.YtneafbhiencjlaaGreatDoorMgRuleProposed2
import Derived.Deep.RegionHeld3
import Derived.BigQuiet
import Derived.BigRegion
import Derived.Deep.AppendLies
import Derived.StillTailTactics

namespace Go.Proofs.YtneafbhiencjlaaGreatDoor
set_option linter.unusedVariables false
set_option linter.unusedSimpArgs false
open Go.RowKit

/-- What is wrong with a line, signs and edicts. -/
def lstE (L : Int) (js : List Int) (l : List Sgn) (q : List Edc) : Int := if lineB L js = false then 70 else if sgnsB L js l = false then 71 else if edcsB L js q = false then 72 else 0
set_option maxRecDepth 100000 in
set_option maxHeartbeats 1000000 in
theorem listsError_r (L : Int) (a : Option Addr) (js : List Int) (ca : Nat) (aa : Option Addr) (l : List Sgn) (cl : Nat) (ae : Option Addr) (q : List Edc) (cq : Nat) (w : World) (hI : IntsS w a js) (hA : SgnS w aa l) (hE : EdS w ae q) :
    Calls Tryz.prog 24 #[.agg #[.int .i64 L, .slice a js.length ca], .slice aa l.length cl, .slice ae q.length cq] w fun e w' => e = .returned (.int .i64 (lstE L js l q)) ∧ Below w.heap.size w w' := by
  have H1 := Lib.hid (fun W (hW : Below w.heap.size w W) => ValidLine_r L a js ca W (hI.below hW))
  have H2 := Lib.hid (fun W (hW : Below w.heap.size w W) => ValidSigns_r L a js ca aa l cl W (hI.below hW) (hA.below hW))
  have H3 := Lib.hid (fun W (hW : Below w.heap.size w W) => ValidEdicts_r L a js ca ae q cq W (hI.below hW) (hE.below hW))
  clear hI hA hE
  cases g0 : lineB L js with
  | false =>
    rw [g0] at H1
    have HR : Hid (lstE L js l q = 70) := Lib.hid (by unfold lstE; rw [g0]; simp)
    clear H2 H3 g0
    go_enter Tryz.func24, Tryz.ntmps24
    go_wp2_with fail
    obtain ⟨wB, hwB⟩ : ∃ wB, w.alloc (.cells #[.int .i64 L, .slice a js.length ca] 24) = wB := ⟨_, rfl⟩
    have hb : Below w.heap.size w wB := by rw [← hwB]; exact (Below.refl _ _).alloc (Nat.le_refl _) _
    have p0 : wB.cell? ⟨w.heap.size, 0, none⟩ = some (.int .i64 L) := by rw [← hwB]; simp [go_sem]
    have p1 : wB.cell? ⟨w.heap.size, 1, none⟩ = some (.slice a js.length ca) := by rw [← hwB]; simp [go_sem]
    rw [hwB]
    clear hwB
    go_wp2_with (go_at_call 42; refine (H1.out _ hb).mono ?_; rintro e w7 ⟨rfl, hb7⟩; have hz7 := hb7.size; have p07 := cell_below p0 hb7; have p17 := cell_below p1 hb7)
    go_ret
    exact ⟨by rw [HR.out]; rfl, below_onR hb hb7⟩
  | true =>
    rw [g0] at H1
    cases g1 : sgnsB L js l with
    | false =>
      rw [g1] at H2
      have HR : Hid (lstE L js l q = 71) := Lib.hid (by unfold lstE; rw [g0, g1]; simp)
      clear H3 g0 g1
      go_enter Tryz.func24, Tryz.ntmps24
      go_wp2_with fail
      obtain ⟨wB, hwB⟩ : ∃ wB, w.alloc (.cells #[.int .i64 L, .slice a js.length ca] 24) = wB := ⟨_, rfl⟩
      have hb : Below w.heap.size w wB := by rw [← hwB]; exact (Below.refl _ _).alloc (Nat.le_refl _) _
      have p0 : wB.cell? ⟨w.heap.size, 0, none⟩ = some (.int .i64 L) := by rw [← hwB]; simp [go_sem]
      have p1 : wB.cell? ⟨w.heap.size, 1, none⟩ = some (.slice a js.length ca) := by rw [← hwB]; simp [go_sem]
      rw [hwB]
      clear hwB
      go_wp2_with (first | (go_at_call 42; refine (H1.out _ hb).mono ?_; rintro e w7 ⟨rfl, hb7⟩; have hz7 := hb7.size; have p07 := cell_below p0 hb7; have p17 := cell_below p1 hb7) | (go_at_call 12; refine (H2.out _ (below_onR hb hb7)).mono ?_; rintro e w8 ⟨rfl, hb8⟩))
      go_ret
      exact ⟨by rw [HR.out]; rfl, below_onR (below_onR hb hb7) hb8⟩
    | true =>
      rw [g1] at H2
      have HT : Hid (lstE L js l q = if edcsB L js q = false then 72 else 0) := Lib.hid (by unfold lstE; rw [g0, g1]; simp)
      clear g0 g1
      cases g2 : edcsB L js q with
      | false =>
        rw [g2] at H3
        have HR := Lib.hid (HT.out)
        rw [g2] at HR
        clear HT g2
        go_enter Tryz.func24, Tryz.ntmps24
        go_wp2_with fail
        obtain ⟨wB, hwB⟩ : ∃ wB, w.alloc (.cells #[.int .i64 L, .slice a js.length ca] 24) = wB := ⟨_, rfl⟩
        have hb : Below w.heap.size w wB := by rw [← hwB]; exact (Below.refl _ _).alloc (Nat.le_refl _) _
        have p0 : wB.cell? ⟨w.heap.size, 0, none⟩ = some (.int .i64 L) := by rw [← hwB]; simp [go_sem]
        have p1 : wB.cell? ⟨w.heap.size, 1, none⟩ = some (.slice a js.length ca) := by rw [← hwB]; simp [go_sem]
        rw [hwB]
        clear hwB
        go_wp2_with (first | (go_at_call 42; refine (H1.out _ hb).mono ?_; rintro e w7 ⟨rfl, hb7⟩; have hz7 := hb7.size; have p07 := cell_below p0 hb7; have p17 := cell_below p1 hb7) | (go_at_call 12; refine (H2.out _ (below_onR hb hb7)).mono ?_; rintro e w8 ⟨rfl, hb8⟩; have p08 := cell_below p07 hb8; have p18 := cell_below p17 hb8) | (go_at_call 58; refine (H3.out _ (below_onR (below_onR hb hb7) hb8)).mono ?_; rintro e w9 ⟨rfl, hb9⟩))
        go_ret
        exact ⟨by rw [HR.out]; rfl, below_onR (below_onR (below_onR hb hb7) hb8) hb9⟩
      | true =>
        rw [g2] at H3
        have HR := Lib.hid (HT.out)
        rw [g2] at HR
        clear HT g2
        go_enter Tryz.func24, Tryz.ntmps24
        go_wp2_with fail
        obtain ⟨wB, hwB⟩ : ∃ wB, w.alloc (.cells #[.int .i64 L, .slice a js.length ca] 24) = wB := ⟨_, rfl⟩
        have hb : Below w.heap.size w wB := by rw [← hwB]; exact (Below.refl _ _).alloc (Nat.le_refl _) _
        have p0 : wB.cell? ⟨w.heap.size, 0, none⟩ = some (.int .i64 L) := by rw [← hwB]; simp [go_sem]
        have p1 : wB.cell? ⟨w.heap.size, 1, none⟩ = some (.slice a js.length ca) := by rw [← hwB]; simp [go_sem]
        rw [hwB]
        clear hwB
        go_wp2_with (first | (go_at_call 42; refine (H1.out _ hb).mono ?_; rintro e w7 ⟨rfl, hb7⟩; have hz7 := hb7.size; have p07 := cell_below p0 hb7; have p17 := cell_below p1 hb7) | (go_at_call 12; refine (H2.out _ (below_onR hb hb7)).mono ?_; rintro e w8 ⟨rfl, hb8⟩; have p08 := cell_below p07 hb8; have p18 := cell_below p17 hb8) | (go_at_call 58; refine (H3.out _ (below_onR (below_onR hb hb7) hb8)).mono ?_; rintro e w9 ⟨rfl, hb9⟩))
        go_ret
        exact ⟨by rw [HR.out]; rfl, below_onR (below_onR (below_onR hb hb7) hb8) hb9⟩
end Go.Proofs.YtneafbhiencjlaaGreatDoor

namespace Go.Proofs.YtneafbhiencjlaaGreatDoor
set_option linter.unusedVariables false
set_option linter.unusedSimpArgs false
open Go.RowKit

/-- The topic of which a kind is a start. -/
def topK (k : Int) : Int := if k = 1 then 1 else if k = 3 then 2 else 0
/-- Is a kind an end of a topic? -/
def endB (k t : Int) : Bool := k == 5 || (k == 2 && t == 1) || (k == 4 && t == 2)
/-- The value of a start. -/
def strK (k v : Int) : Int := if k = 3 then 1 else v
def dstK (L dir c : Int) : Int := if dir = 1 then c else L - c
def begK (L dir m : Int) : Int := if dir = 1 then m else L - 1 - m
theorem topicOf_r (k : Int) (w : World) : Calls Tryz.prog 81 #[.int .i64 k] w fun e w' => e = .returned (.int .i64 (topK k)) ∧ w = w' := by
  by_cases h1 : k = 1
  · subst h1
    go_enter Tryz.func81, Tryz.ntmps81
    go_wp2_with fail
    go_ret
    exact ⟨rfl, rfl⟩
  · by_cases h2 : k = 3
    · subst h2
      go_enter Tryz.func81, Tryz.ntmps81
      go_wp2_with fail
      go_ret
      exact ⟨rfl, rfl⟩
    · have hr : Hid (topK k = 0) := Lib.hid (by unfold topK; simp [h1, h2])
      go_enter Tryz.func81, Tryz.ntmps81
      go_wp2_with fail
      go_ret
      exact ⟨by rw [hr.out]; rfl, rfl⟩
set_option maxRecDepth 100000 in
theorem isEnd_r (k t : Int) (w : World) : Calls Tryz.prog 102 #[.int .i64 k, .int .i64 t] w fun e w' => e = .returned (.bool (endB k t)) ∧ w = w' := by
  by_cases h5 : k = 5
  · subst h5
    have hr : Hid (endB 5 t = true) := Lib.hid (by unfold endB; simp)
    go_enter Tryz.func102, Tryz.ntmps102
    go_wp2_with fail
    go_ret
    exact ⟨by rw [hr.out]; rfl, rfl⟩
  · by_cases h2 : k = 2
    · subst h2
      by_cases g1 : t = 1
      · subst g1
        go_enter Tryz.func102, Tryz.ntmps102
        go_wp2_with fail
        go_ret
        exact ⟨rfl, rfl⟩
      · have hr : Hid (endB 2 t = false) := Lib.hid (by unfold endB; simp [g1])
        have b1 : (t == 1) = false := beq_false_of_ne g1
        go_enter Tryz.func102, Tryz.ntmps102
        go_wp2_with fail
        go_ret
        exact ⟨by rw [hr.out]; rfl, rfl⟩
    · by_cases h4 : k = 4
      · subst h4
        by_cases g2 : t = 2
        · subst g2
          go_enter Tryz.func102, Tryz.ntmps102
          go_wp2_with fail
          go_ret
          exact ⟨rfl, rfl⟩
        · have hr : Hid (endB 4 t = false) := Lib.hid (by unfold endB; simp [g2])
          have b1 : (t == 2) = false := beq_false_of_ne g2
          go_enter Tryz.func102, Tryz.ntmps102
          go_wp2_with fail
          go_ret
          exact ⟨by rw [hr.out]; rfl, rfl⟩
      · have hr : Hid (endB k t = false) := Lib.hid (by unfold endB; simp [h5, h2, h4])
        have b5 : (k == 5) = false := beq_false_of_ne h5
        have b2 : (k == 2) = false := beq_false_of_ne h2
        have b4 : (k == 4) = false := beq_false_of_ne h4
        go_enter Tryz.func102, Tryz.ntmps102
        go_wp2_with fail
        go_ret
        exact ⟨by rw [hr.out]; rfl, rfl⟩
theorem distance_r (L : Int) (a : Option Addr) (n ca : Nat) (dir c : Int) (hL1 : 0 ≤ L) (hL2 : L ≤ 100000) (hc1 : -1000000 ≤ c) (hc2 : c ≤ 1000000) (w : World) :
    Calls Tryz.prog 61 #[.agg #[.int .i64 L, .slice a n ca], .int .i64 dir, .int .i64 c] w fun e w' => e = .returned (.int .i64 (dstK L dir c)) ∧ Below w.heap.size w w' := by
  by_cases h1 : dir = 1
  · subst h1
    have hr : Hid (dstK L 1 c = c) := Lib.hid (by unfold dstK; simp)
    go_enter Tryz.func61, Tryz.ntmps61
    go_wp2_with fail
    go_ret
    exact ⟨by rw [hr.out]; rfl, (Below.refl _ _).alloc (Nat.le_refl _) _⟩
  · have hr : Hid (dstK L dir c = L - c) := Lib.hid (by unfold dstK; simp [h1])
    go_enter Tryz.func61, Tryz.ntmps61
    go_wp2_with fail
    go_ret
    exact ⟨by rw [hr.out]; rfl, (Below.refl _ _).alloc (Nat.le_refl _) _⟩
theorem beginOf_r (L : Int) (a : Option Addr) (n ca : Nat) (dir c : Int) (hL1 : 0 ≤ L) (hL2 : L ≤ 100000) (hc1 : -1000000 ≤ c) (hc2 : c ≤ 1000000) (w : World) :
    Calls Tryz.prog 67 #[.agg #[.int .i64 L, .slice a n ca], .int .i64 dir, .int .i64 c] w fun e w' => e = .returned (.int .i64 (begK L dir c)) ∧ Below w.heap.size w w' := by
  by_cases h1 : dir = 1
  · subst h1
    have hr : Hid (begK L 1 c = c) := Lib.hid (by unfold begK; simp)
    go_enter Tryz.func67, Tryz.ntmps67
    go_wp2_with fail
    go_ret
    exact ⟨by rw [hr.out]; rfl, (Below.refl _ _).alloc (Nat.le_refl _) _⟩
  · have hr : Hid (begK L dir c = L - 1 - c) := Lib.hid (by unfold begK; simp [h1])
    go_enter Tryz.func67, Tryz.ntmps67
    go_wp2_with fail
    go_ret
    exact ⟨by rw [hr.out]; rfl, (Below.refl _ _).alloc (Nat.le_refl _) _⟩
/-- Does a cover hold an hour? -/
def covH (p : Spn) (h : Int) : Bool := decide (p.1 ≤ h) && decide (h < p.2)
/-- Does a sign speak at an hour? -/
def spkB (s : Sgn) (h : Int) : Bool := decide (s.up ≤ h) && decide (h < s.dn) && !(anyK (fun j => covH (gp s.cv j) h) s.cv.length)
set_option maxRecDepth 100000 in
set_option maxHeartbeats 1000000 in
theorem idxSp_any (aa : Option Addr) (l : List (Spn)) (ca : Nat) (lb : Array Value) (p : Nat → Bool) (w : World) (hA : PairsS w aa l)
    (hp : ∀ j W, j < l.length → Below w.heap.size w W → Calls Tryz.prog 106 (#[.agg #[.int .i64 (gp l j).1, .int .i64 (gp l j).2]] ++ lb) W fun e w' => e = .returned (.bool (p j)) ∧ Below W.heap.size W w') :
    Calls Tryz.prog 122 #[.slice aa l.length ca, .func (.func 106) #[] lb] w fun e w' => e = .returned (.int .i64 (idxK p l.length)) ∧ Below w.heap.size w w' := by
  obtain ⟨hlen, -, blk, off, hadr, hc⟩ := hA
  have HP := Lib.hid hp
  have HC := Lib.hid hc
  have HH : Hid (∀ k, k < l.length → p k = true → (∀ j, j < k → p j = false) → idxK p l.length = k) := Lib.hid fun k hk h hb => idxK_hit h hb _ hk
  have HM : Hid ((∀ j, j < l.length → p j = false) → idxK p l.length = -1) := Lib.hid fun h => idxK_miss _ h
  have HL : Hid (0 < l.length → aa = some ⟨blk, off, none⟩) := Lib.hid fun h => hadr (pos_ne (n := 0) h)
  generalize idxK p l.length = R at *
  clear hp hc hadr
  go_enter Tryz.func122, Tryz.ntmps122
  go_wp2_with fail
  go_loopw [8] (fun i wr => ∃ k : Nat, k ≤ l.length ∧ i = .int .i64 k ∧ Below w.heap.size w wr ∧ Hid (∀ j, j < k → p j = false)) (fun i _ => l.length - (intOf i).toNat)
  case atStart => exact ⟨0, Nat.zero_le _, rfl, Below.refl _ _, Lib.hid fun j hj => absurd hj (Nat.not_lt_zero _)⟩
  case round =>
    obtain ⟨k, hk, rfl, hb, HA⟩ := hrel
    by_cases hlt : k < l.length
    · obtain rfl := HL.out (by omega)
      obtain ⟨c0, c1⟩ := HC.out k hlt
      have c0 := cell_below c0 hb
      have c1 := cell_below c1 hb
      have HK := Lib.hid (fun W => HP.out k W hlt)
      have HHk := Lib.hid (HH.out k hlt)
      have HN : Hid (p k = false → ∀ j, j < k + 1 → p j = false) := Lib.hid fun h j hj => by
        by_cases e : j = k
        · subst e; exact h
        · exact HA.out j (by omega)
      clear HP HC HM HL HH
      generalize (gp l k).1 = x0 at *
      generalize (gp l k).2 = x1 at *
      cases hpk : p k with
      | true =>
        have HR := Lib.hid (HHk.out hpk HA.out)
        rw [hpk] at HK
        clear hpk HHk HN
        go_wp2_with fail
        refine (HK.out _ hb).mono ?_
        rintro e w1 ⟨rfl, hb1⟩
        go_wp2_with fail
        go_ret
        rw [HR.out]
        exact ⟨rfl, hb.trans (hb1.mono hb.size)⟩
      | false =>
        have HR := Lib.hid (HN.out hpk)
        rw [hpk] at HK
        clear hpk HHk HN
        go_wp2_with fail
        refine (HK.out _ hb).mono ?_
        rintro e w1 ⟨rfl, hb1⟩
        go_wp2_with fail
        go_roundw
        case rel => exact ⟨k + 1, by omega, by go_num, hb.trans (hb1.mono hb.size), HR⟩
        case measure => simp [intOf]; omega
    · obtain rfl : k = l.length := by omega
      have HR := Lib.hid (HM.out HA.out)
      go_wp2_with fail
      go_ret
      rw [HR.out]
      exact ⟨rfl, hb⟩

set_option maxRecDepth 100000 in
theorem containsSp_any (aa : Option Addr) (l : List (Spn)) (ca : Nat) (lb : Array Value) (p : Nat → Bool) (w : World) (hA : PairsS w aa l)
    (hp : ∀ j W, j < l.length → Below w.heap.size w W → Calls Tryz.prog 106 (#[.agg #[.int .i64 (gp l j).1, .int .i64 (gp l j).2]] ++ lb) W fun e w' => e = .returned (.bool (p j)) ∧ Below W.heap.size W w') :
    Calls Tryz.prog 90 #[.slice aa l.length ca, .func (.func 106) #[] lb] w fun e w' => e = .returned (.bool (anyK p l.length)) ∧ Below w.heap.size w w' := by
  have H := Lib.hid (idxSp_any aa l ca lb p w hA hp)
  have hq := Lib.hid (idxK_any p l.length)
  clear hp hA
  generalize idxK p l.length = R at *
  generalize anyK p l.length = B at *
  have hq := hq.out
  subst hq
  go_enter Tryz.func90, Tryz.ntmps90
  go_wp2_with fail
  refine H.out.mono ?_
  rintro e w1 ⟨rfl, hb1⟩
  go_wp2_with fail
  all_goals
    go_ret
    exact ⟨by simp_all, hb1⟩

theorem spk1_r (x y h : Int) (B : Nat) (w : World) (hB : B < w.heap.size) (c0 : w.cell? ⟨B, 0, none⟩ = some (.int .i64 h)) :
    Calls Tryz.prog 106 (#[.agg #[.int .i64 x, .int .i64 y]] ++ #[.pointer (some ⟨B, 0, none⟩)]) w fun e w' => e = .returned (.bool (covH (x, y) h)) ∧ Below w.heap.size w w' := by
  have q0 : ∀ c t, (w.alloc (.cells c t)).cell? ⟨B, 0, none⟩ = some (.int .i64 h) := fun c t => (((Below.refl w.heap.size w).alloc (Nat.le_refl _) _).cell (p := ⟨B, 0, none⟩) hB).trans c0
  by_cases h1 : x ≤ h
  · by_cases h2 : h < y
    · have hr : Hid (covH (x, y) h = true) := Lib.hid (by simp [covH, h1, h2])
      have d1 : decide (x ≤ h) = true := decide_eq_true h1
      go_enter Tryz.func106, Tryz.ntmps106
      go_wp2_with fail
      go_ret
      exact ⟨by rw [hr.out]; rfl, (Below.refl _ _).alloc (Nat.le_refl _) _⟩
    · have hr : Hid (covH (x, y) h = false) := Lib.hid (by simp [covH, h2])
      have d1 : decide (x ≤ h) = true := decide_eq_true h1
      go_enter Tryz.func106, Tryz.ntmps106
      go_wp2_with fail
      go_ret
      exact ⟨by rw [hr.out]; rfl, (Below.refl _ _).alloc (Nat.le_refl _) _⟩
  · have hr : Hid (covH (x, y) h = false) := Lib.hid (by simp [covH, h1])
    have d1 : decide (x ≤ h) = false := decide_eq_false h1
    go_enter Tryz.func106, Tryz.ntmps106
    go_wp2_with fail
    go_ret
    exact ⟨by rw [hr.out]; rfl, (Below.refl _ _).alloc (Nat.le_refl _) _⟩
set_option maxRecDepth 100000 in
set_option maxHeartbeats 1000000 in
theorem Speaks_r (s : Sgn) (ad : Option Addr) (cp : Nat) (h : Int) (w : World) (hP : PairsS w ad s.cv) :
    Calls Tryz.prog 74 #[.agg #[.int .i64 s.n, .int .i64 s.k, .int .i64 s.v, .int .i64 s.c, .int .i64 s.d, .int .i64 s.rk, .int .i64 s.up, .int .i64 s.dn, .slice ad s.cv.length cp], .int .i64 h] w fun e w' => e = .returned (.bool (spkB s h)) ∧ Below w.heap.size w w' := by
  have H5 := Lib.hid (fun W (hW : Below w.heap.size w W) (hB : w.heap.size + 1 < W.heap.size) (c0 : W.cell? ⟨w.heap.size + 1, 0, none⟩ = some (.int .i64 h)) => containsSp_any ad s.cv cp #[.pointer (some ⟨w.heap.size + 1, 0, none⟩)] (fun j => covH (gp s.cv j) h) W (hP.below hW) (fun j W' _ hW' => spk1_r _ _ h _ W' (Nat.lt_of_lt_of_le hB hW'.size) (cell_below c0 hW')))
  have hlen := hP.1
  have HV : Hid (spkB s h = (decide (s.up ≤ h) && decide (h < s.dn) && !(anyK (fun j => covH (gp s.cv j) h) s.cv.length))) := Lib.hid rfl
  clear hP
  by_cases h1 : s.up ≤ h
  · have d1 : decide (s.up ≤ h) = true := decide_eq_true h1
    by_cases h2 : h < s.dn
    · have HR : Hid (spkB s h = !(anyK (fun j => covH (gp s.cv j) h) s.cv.length)) := Lib.hid (by rw [HV.out, decide_eq_true h1, decide_eq_true h2]; simp)
      generalize anyK (fun j => covH (gp s.cv j) h) s.cv.length = B at *
      clear HV
      go_enter Tryz.func74, Tryz.ntmps74
      go_wp2_with fail
      obtain ⟨wB, hwB⟩ : ∃ wB, (w.alloc (.cells #[.int .i64 s.n, .int .i64 s.k, .int .i64 s.v, .int .i64 s.c, .int .i64 s.d, .int .i64 s.rk, .int .i64 s.up, .int .i64 s.dn, .slice ad s.cv.length cp] 51)).alloc (.cells #[.int .i64 h] 3) = wB := ⟨_, rfl⟩
      have hb : Below w.heap.size w wB := by rw [← hwB]; exact ((Below.refl _ _).alloc (Nat.le_refl _) _).alloc (by simp) _
      have hz : w.heap.size + 1 < wB.heap.size := by rw [← hwB]; simp
      have p0 : wB.cell? ⟨w.heap.size + 1, 0, none⟩ = some (.int .i64 h) := by rw [← hwB]; simp [go_sem]
      have q6 : wB.cell? ⟨w.heap.size, 6, none⟩ = some (.int .i64 s.up) := by rw [← hwB]; simp [go_sem]
      have q7 : wB.cell? ⟨w.heap.size, 7, none⟩ = some (.int .i64 s.dn) := by rw [← hwB]; simp [go_sem]
      have q8 : wB.cell? ⟨w.heap.size, 8, none⟩ = some (.slice ad s.cv.length cp) := by rw [← hwB]; simp [go_sem]
      rw [hwB]
      clear hwB
      go_wp2_with fail
      refine (H5.out _ hb hz p0).mono ?_
      rintro e w8 ⟨rfl, hb8⟩
      go_wp2_with fail
      go_ret
      exact ⟨by rw [HR.out]; cases B <;> rfl, below_onR hb hb8⟩
    · have HR : Hid (spkB s h = false) := Lib.hid (by rw [HV.out, decide_eq_false h2]; simp)
      clear HV H5
      go_enter Tryz.func74, Tryz.ntmps74
      go_wp2_with fail
      obtain ⟨wB, hwB⟩ : ∃ wB, (w.alloc (.cells #[.int .i64 s.n, .int .i64 s.k, .int .i64 s.v, .int .i64 s.c, .int .i64 s.d, .int .i64 s.rk, .int .i64 s.up, .int .i64 s.dn, .slice ad s.cv.length cp] 51)).alloc (.cells #[.int .i64 h] 3) = wB := ⟨_, rfl⟩
      have hb : Below w.heap.size w wB := by rw [← hwB]; exact ((Below.refl _ _).alloc (Nat.le_refl _) _).alloc (by simp) _
      have hz : w.heap.size + 1 < wB.heap.size := by rw [← hwB]; simp
      have p0 : wB.cell? ⟨w.heap.size + 1, 0, none⟩ = some (.int .i64 h) := by rw [← hwB]; simp [go_sem]
      have q6 : wB.cell? ⟨w.heap.size, 6, none⟩ = some (.int .i64 s.up) := by rw [← hwB]; simp [go_sem]
      have q7 : wB.cell? ⟨w.heap.size, 7, none⟩ = some (.int .i64 s.dn) := by rw [← hwB]; simp [go_sem]
      have q8 : wB.cell? ⟨w.heap.size, 8, none⟩ = some (.slice ad s.cv.length cp) := by rw [← hwB]; simp [go_sem]
      rw [hwB]
      clear hwB
      go_wp2_with fail
      go_ret
      exact ⟨by rw [HR.out]; rfl, hb⟩
  · have d1 : decide (s.up ≤ h) = false := decide_eq_false h1
    have HR : Hid (spkB s h = false) := Lib.hid (by rw [HV.out, decide_eq_false h1]; simp)
    clear HV H5
    go_enter Tryz.func74, Tryz.ntmps74
    go_wp2_with fail
    obtain ⟨wB, hwB⟩ : ∃ wB, (w.alloc (.cells #[.int .i64 s.n, .int .i64 s.k, .int .i64 s.v, .int .i64 s.c, .int .i64 s.d, .int .i64 s.rk, .int .i64 s.up, .int .i64 s.dn, .slice ad s.cv.length cp] 51)).alloc (.cells #[.int .i64 h] 3) = wB := ⟨_, rfl⟩
    have hb : Below w.heap.size w wB := by rw [← hwB]; exact ((Below.refl _ _).alloc (Nat.le_refl _) _).alloc (by simp) _
    have hz : w.heap.size + 1 < wB.heap.size := by rw [← hwB]; simp
    have p0 : wB.cell? ⟨w.heap.size + 1, 0, none⟩ = some (.int .i64 h) := by rw [← hwB]; simp [go_sem]
    have q6 : wB.cell? ⟨w.heap.size, 6, none⟩ = some (.int .i64 s.up) := by rw [← hwB]; simp [go_sem]
    have q7 : wB.cell? ⟨w.heap.size, 7, none⟩ = some (.int .i64 s.dn) := by rw [← hwB]; simp [go_sem]
    have q8 : wB.cell? ⟨w.heap.size, 8, none⟩ = some (.slice ad s.cv.length cp) := by rw [← hwB]; simp [go_sem]
    rw [hwB]
    clear hwB
    go_wp2_with fail
    go_ret
    exact ⟨by rw [HR.out]; rfl, hb⟩
end Go.Proofs.YtneafbhiencjlaaGreatDoor

namespace Go.Proofs.YtneafbhiencjlaaGreatDoor
set_option linter.unusedVariables false
set_option linter.unusedSimpArgs false
open Go.RowKit

/-- The least distance of a junction behind d, of the first k, or the end's. -/
def opnK (L : Int) (js : List Int) (dir d : Int) : Nat → Int
  | 0 => L
  | k + 1 => if d < dstK L dir (gi js k) then min (opnK L js dir d k) (dstK L dir (gi js k)) else opnK L js dir d k
theorem dst_bound {L dir c : Int} (h1 : 0 ≤ L) (h2 : L ≤ 100000) (h3 : 0 ≤ c) (h4 : c ≤ 100000) : -1000000 ≤ dstK L dir c ∧ dstK L dir c ≤ 1000000 := by unfold dstK; split <;> omega
set_option maxRecDepth 100000 in
set_option maxHeartbeats 1000000 in
theorem openUntil_r (L : Int) (a : Option Addr) (js : List Int) (ca : Nat) (dir d : Int) (hL1 : 0 ≤ L) (hL2 : L ≤ 100000) (hJ : ∀ j, j < js.length → 0 ≤ gi js j ∧ gi js j ≤ 100000) (w : World) (hI : IntsS w a js) :
    Calls Tryz.prog 75 #[.agg #[.int .i64 L, .slice a js.length ca], .int .i64 dir, .int .i64 d] w fun e w' => e = .returned (.int .i64 (opnK L js dir d js.length)) ∧ Below w.heap.size w w' := by
  obtain ⟨hlen, -, blk, off, hadr, hc⟩ := hI
  have HC := Lib.hid hc
  have HJ := Lib.hid hJ
  have HL : Hid (0 < js.length → a = some ⟨blk, off, none⟩) := Lib.hid fun h => hadr (pos_neR (i := 0) h)
  have H0 : Hid (opnK L js dir d 0 = L) := Lib.hid rfl
  have HS : Hid (∀ k, opnK L js dir d (k + 1) = if d < dstK L dir (gi js k) then min (opnK L js dir d k) (dstK L dir (gi js k)) else opnK L js dir d k) := Lib.hid fun k => rfl
  clear hc hadr hJ
  go_enter Tryz.func75, Tryz.ntmps75
  go_wp2_with fail
  obtain ⟨wB, hwB⟩ : ∃ wB, w.alloc (.cells #[.int .i64 L, .slice a js.length ca] 24) = wB := ⟨_, rfl⟩
  have hb : Below w.heap.size w wB := by rw [← hwB]; exact (Below.refl _ _).alloc (Nat.le_refl _) _
  have p0 : wB.cell? ⟨w.heap.size, 0, none⟩ = some (.int .i64 L) := by rw [← hwB]; simp [go_sem]
  have p1 : wB.cell? ⟨w.heap.size, 1, none⟩ = some (.slice a js.length ca) := by rw [← hwB]; simp [go_sem]
  rw [hwB]
  clear hwB
  go_wp2_with fail
  go_loopw [7, 16] (fun q i wr => ∃ k : Nat, k ≤ js.length ∧ i = .int .i64 k ∧ q = .int .i64 (opnK L js dir d k) ∧ Below wB.heap.size wB wr) (fun _ i _ => js.length - (intOf i).toNat)
  case atStart => exact ⟨0, Nat.zero_le _, rfl, by rw [H0.out], Below.refl _ _⟩
  case round =>
    obtain ⟨k, hk, rfl, rfl, hbr⟩ := hrel
    have p0 := cell_below p0 hbr
    have p1 := cell_below p1 hbr
    have hbw := below_onR hb hbr
    by_cases hlt : k < js.length
    · obtain rfl := HL.out (by omega)
      have cz := cell_below (HC.out k hlt) hbw
      obtain ⟨j1, j2⟩ := HJ.out k hlt
      have HD := Lib.hid (fun W => distance_r L (some ⟨blk, off, none⟩) js.length ca dir (gi js k) hL1 hL2 (by omega) (by omega) W)
      have HSk := Lib.hid (HS.out k)
      clear HC HL HJ HS H0
      generalize hx1 : opnK L js dir d (k + 1) = x1 at *
      generalize hx0 : opnK L js dir d k = x0 at *
      generalize dstK L dir (gi js k) = D at *
      generalize hjk : gi js k = jk at *
      clear hx0 hjk
      by_cases hd : d < D
      · have hs : Hid (x1 = min x0 D) := Lib.hid (by rw [HSk.out, if_pos hd])
        clear HSk
        have hd2 : decide (d < D) = true := decide_eq_true hd
        go_wp2_with (go_at_call 61; refine (HD.out _).mono ?_; rintro e w7 ⟨rfl, hb7⟩)
        all_goals
          go_roundw
          case rel => exact ⟨k + 1, by omega, by go_num, by rw [hx1, hs.out] <;> first | rfl | (congr 1; omega) | (simp; omega), hbr.trans (hb7.mono hbr.size)⟩
          case measure => simp [intOf]; omega
      · have hs : Hid (x1 = x0) := Lib.hid (by rw [HSk.out, if_neg hd])
        clear HSk
        have hd2 : decide (d < D) = false := decide_eq_false hd
        go_wp2_with (go_at_call 61; refine (HD.out _).mono ?_; rintro e w7 ⟨rfl, hb7⟩)
        go_roundw
        case rel => exact ⟨k + 1, by omega, by go_num, by rw [hx1, hs.out], hbr.trans (hb7.mono hbr.size)⟩
        case measure => simp [intOf]; omega
    · obtain rfl : k = js.length := by omega
      go_wp2_with fail
      go_ret
      exact ⟨rfl, hbw⟩
/-- A sign of a row. -/
structure Pst where
  s : Sgn
  d : Int
  u : Int
  b : Bool
def gq (l : List Pst) (i : Nat) : Pst := l.getD i ⟨⟨0, 0, 0, 0, 0, 0, 0, 0, []⟩, 0, 0, false⟩
def PstAt (w : World) (blk o : Nat) (p : Pst) (ad : Option Addr) (cp : Nat) : Prop :=
  (w.cell? ⟨blk, o, none⟩ = some (.int .i64 p.s.n) ∧ w.cell? ⟨blk, o + 1, none⟩ = some (.int .i64 p.s.k) ∧ w.cell? ⟨blk, o + 2, none⟩ = some (.int .i64 p.s.v) ∧ w.cell? ⟨blk, o + 3, none⟩ = some (.int .i64 p.s.c) ∧ w.cell? ⟨blk, o + 4, none⟩ = some (.int .i64 p.s.d) ∧ w.cell? ⟨blk, o + 5, none⟩ = some (.int .i64 p.s.rk) ∧ w.cell? ⟨blk, o + 6, none⟩ = some (.int .i64 p.s.up) ∧ w.cell? ⟨blk, o + 7, none⟩ = some (.int .i64 p.s.dn)) ∧ w.cell? ⟨blk, o + 8, none⟩ = some (.slice ad p.s.cv.length cp) ∧ w.cell? ⟨blk, o + 9, none⟩ = some (.int .i64 p.d) ∧ w.cell? ⟨blk, o + 10, none⟩ = some (.int .i64 p.u) ∧ w.cell? ⟨blk, o + 11, none⟩ = some (.bool p.b)
theorem PstAt.below {w w' : World} {blk o : Nat} {p : Pst} {ad : Option Addr} {cp : Nat} (h : PstAt w blk o p ad cp) (hb : Below w.heap.size w w') : PstAt w' blk o p ad cp := by
  obtain ⟨⟨c0, c1, c2, c3, c4, c5, c6, c7⟩, c8, c9, c10, c11⟩ := h
  exact ⟨⟨cell_below c0 hb, cell_below c1 hb, cell_below c2 hb, cell_below c3 hb, cell_below c4 hb, cell_below c5 hb, cell_below c6 hb, cell_below c7 hb⟩, cell_below c8 hb, cell_below c9 hb, cell_below c10 hb, cell_below c11 hb⟩
/-- A row in memory. -/
def PstS (w : World) (a : Option Addr) (l : List Pst) : Prop :=
  l.length ≤ 100000000 ∧ ∃ (blk off : Nat) (ad : Nat → Option Addr) (cp : Nat → Nat), (l ≠ [] → a = some ⟨blk, off, none⟩) ∧ ∀ i, i < l.length → PstAt w blk (off + i * 12) (gq l i) (ad i) (cp i) ∧ PairsS w (ad i) (gq l i).s.cv
theorem PstS.below {w w' : World} {a : Option Addr} {l : List Pst} (h : PstS w a l) (hb : Below w.heap.size w w') : PstS w' a l := by
  obtain ⟨h0, blk, off, ad, cp, h2, h3⟩ := h
  exact ⟨h0, blk, off, ad, cp, h2, fun i hi => ⟨(h3 i hi).1.below hb, (h3 i hi).2.below hb⟩⟩
theorem started_r (p : Pst) (ad : Option Addr) (cp : Nat) (w : World) :
    Calls Tryz.prog 103 #[.agg #[.int .i64 p.s.n, .int .i64 p.s.k, .int .i64 p.s.v, .int .i64 p.s.c, .int .i64 p.s.d, .int .i64 p.s.rk, .int .i64 p.s.up, .int .i64 p.s.dn, .slice ad p.s.cv.length cp, .int .i64 p.d, .int .i64 p.u, .bool p.b]] w fun e w' => e = .returned (.int .i64 (strK p.s.k p.s.v)) ∧ Below w.heap.size w w' := by
  obtain ⟨⟨n, k, v, c, d, rk, up, dn, cv⟩, ds, un, bl⟩ := p
  simp only []
  by_cases h1 : k = 3
  · subst h1
    have hr : Hid (strK 3 v = 1) := Lib.hid (by unfold strK; simp)
    go_enter Tryz.func103, Tryz.ntmps103
    go_wp2_with fail
    go_ret
    exact ⟨by rw [hr.out]; rfl, (Below.refl _ _).alloc (Nat.le_refl _) _⟩
  · have hr : Hid (strK k v = v) := Lib.hid (by unfold strK; simp [h1])
    have b1 : (k == 3) = false := beq_false_of_ne h1
    go_enter Tryz.func103, Tryz.ntmps103
    go_wp2_with fail
    go_ret
    exact ⟨by rw [hr.out]; rfl, (Below.refl _ _).alloc (Nat.le_refl _) _⟩
end Go.Proofs.YtneafbhiencjlaaGreatDoor

namespace Go.Proofs.YtneafbhiencjlaaGreatDoor
set_option linter.unusedVariables false
set_option linter.unusedSimpArgs false
open Go.RowKit

/-- What holds behind a sign of the row, where v held. -/
def stpK (p : Pst) (t k v : Int) : Int := if endB p.s.k t = true then 0 else if topK p.s.k = t then (if p.u ≤ k then 0 else strK p.s.k p.s.v) else v
/-- What a row makes hold at a distance. -/
def hldL (t k : Int) : List Pst → Int → Int
  | [], v => v
  | p :: l, v => if k < p.d then v else hldL t k l (stpK p t k v)
theorem drop_gq (l : List Pst) {n : Nat} (h : n < l.length) : l.drop n = gq l n :: l.drop (n + 1) := by
  rw [List.drop_eq_getElem_cons h]; unfold gq; simp [h]
set_option maxRecDepth 100000 in
set_option maxHeartbeats 2000000 in
theorem holdsAt_r (aa : Option Addr) (l : List Pst) (ca : Nat) (t k : Int) (w : World) (hA : PstS w aa l) :
    Calls Tryz.prog 66 #[.slice aa l.length ca, .int .i64 t, .int .i64 k] w fun e w' => e = .returned (.int .i64 (hldL t k l 0)) ∧ Below w.heap.size w w' := by
  obtain ⟨hlen, blk, off, ad, cp, hadr, hc⟩ := hA
  have HC := Lib.hid hc
  have HL : Hid (0 < l.length → aa = some ⟨blk, off, none⟩) := Lib.hid fun h => hadr (pos_ne (n := 0) h)
  have HD : Hid (∀ n v, n < l.length → hldL t k (l.drop n) v = if k < (gq l n).d then v else hldL t k (l.drop (n + 1)) (stpK (gq l n) t k v)) := Lib.hid fun n v h => by rw [drop_gq l h]; rfl
  have H0 : Hid (l.drop 0 = l) := Lib.hid rfl
  have HEnd : Hid (∀ v, hldL t k (l.drop l.length) v = v) := Lib.hid fun v => by rw [List.drop_length]; rfl
  clear hc hadr
  go_enter Tryz.func66, Tryz.ntmps66
  go_wp2_with fail
  go_loopw [7, 12] (fun q i wr => ∃ (n : Nat) (v : Int), n ≤ l.length ∧ i = .int .i64 n ∧ q = .int .i64 v ∧ Below w.heap.size w wr ∧ Hid (hldL t k l 0 = hldL t k (l.drop n) v)) (fun _ i _ => l.length - (intOf i).toNat)
  case atStart => exact ⟨0, 0, Nat.zero_le _, rfl, rfl, Below.refl _ _, Lib.hid (by rw [H0.out])⟩
  case round =>
    obtain ⟨n, v, hn, rfl, rfl, hb, HV⟩ := hrel
    by_cases hlt : n < l.length
    · obtain rfl := HL.out (by omega)
      obtain ⟨⟨⟨c0, c1, c2, c3, c4, c5, c6, c7⟩, c8, c9, c10, c11⟩, -⟩ := HC.out n hlt
      have c0 := cell_below c0 hb
      have c1 := cell_below c1 hb
      have c2 := cell_below c2 hb
      have c3 := cell_below c3 hb
      have c4 := cell_below c4 hb
      have c5 := cell_below c5 hb
      have c6 := cell_below c6 hb
      have c7 := cell_below c7 hb
      have c8 := cell_below c8 hb
      have c9 := cell_below c9 hb
      have c10 := cell_below c10 hb
      have c11 := cell_below c11 hb
      have HX := Lib.hid (HV.out.trans (HD.out n v hlt))
      clear HC HL HD H0 HEnd HV
      generalize ad n = adk at *
      generalize cp n = cpk at *
      generalize gq l n = p at *
      have hbA := hb.size
      by_cases hkd : k < p.d
      · have HN := Lib.hid (HX.out.trans (if_pos hkd))
        have hkd0 : decide (k < p.d) = true := decide_eq_true hkd
        clear HX
        go_wp2_with fail
        go_ret
        exact ⟨by rw [HN.out]; rfl, hb.alloc hbA _⟩
      · have hkd0 : decide (k < p.d) = false := decide_eq_false hkd
        have HE := Lib.hid (fun W => isEnd_r p.s.k t W)
        have HT := Lib.hid (fun W => topicOf_r p.s.k W)
        have HSt := Lib.hid (fun W => started_r p adk cpk W)
        have hkd2 : p.d ≤ k := by omega
        cases he : endB p.s.k t with
        | true =>
          rw [he] at HE
          have es : stpK p t k v = 0 := by unfold stpK; rw [if_pos he]
          have HN : Hid (hldL t k l 0 = hldL t k (l.drop (n + 1)) (0)) := Lib.hid (by rw [HX.out, if_neg hkd, es])
          clear es
          clear HX hkd0
          go_wp2_with (first | (go_at_call 102; refine (HE.out _).mono ?_; rintro e w7 ⟨rfl, rfl⟩) | (go_at_call 81; refine (HT.out _).mono ?_; rintro e w7 ⟨rfl, rfl⟩) | (go_at_call 103; refine (HSt.out _).mono ?_; rintro e w7 ⟨rfl, hb7⟩))
          go_roundw
          case rel => exact ⟨n + 1, _, by omega, by go_num, rfl, hb.alloc hbA _, HN⟩
          case measure => simp [intOf]; omega
        | false =>
          rw [he] at HE
          have he2 : ¬ endB p.s.k t = true := by rw [he]; decide
          by_cases ht : topK p.s.k = t
          · rw [ht] at HT
            by_cases hu : p.u ≤ k
            · have hu2 : decide (p.u ≤ k) = true := decide_eq_true hu
              have es : stpK p t k v = 0 := by unfold stpK; rw [if_neg he2, if_pos ht, if_pos hu]
              have HN : Hid (hldL t k l 0 = hldL t k (l.drop (n + 1)) (0)) := Lib.hid (by rw [HX.out, if_neg hkd, es])
              clear es
              clear HX hkd0
              go_wp2_with (first | (go_at_call 102; refine (HE.out _).mono ?_; rintro e w7 ⟨rfl, rfl⟩) | (go_at_call 81; refine (HT.out _).mono ?_; rintro e w7 ⟨rfl, rfl⟩) | (go_at_call 103; refine (HSt.out _).mono ?_; rintro e w7 ⟨rfl, hb7⟩))
              go_roundw
              case rel => exact ⟨n + 1, _, by omega, by go_num, rfl, hb.alloc hbA _, HN⟩
              case measure => simp [intOf]; omega
            · have hu2 : decide (p.u ≤ k) = false := decide_eq_false hu
              have es : stpK p t k v = strK p.s.k p.s.v := by unfold stpK; rw [if_neg he2, if_pos ht, if_neg hu]
              have HN : Hid (hldL t k l 0 = hldL t k (l.drop (n + 1)) (strK p.s.k p.s.v)) := Lib.hid (by rw [HX.out, if_neg hkd, es])
              clear es
              clear HX hkd0
              go_wp2_with (first | (go_at_call 102; refine (HE.out _).mono ?_; rintro e w7 ⟨rfl, rfl⟩) | (go_at_call 81; refine (HT.out _).mono ?_; rintro e w7 ⟨rfl, rfl⟩) | (go_at_call 103; refine (HSt.out _).mono ?_; rintro e w7 ⟨rfl, hb7⟩))
              go_roundw
              case rel => exact ⟨n + 1, _, by omega, by go_num, rfl, (hb.alloc hbA _).trans (hb7.mono (by first | (simp; omega) | omega)), HN⟩
              case measure => simp [intOf]; omega
          · have ht2 : (topK p.s.k == t) = false := beq_false_of_ne ht
            have es : stpK p t k v = v := by unfold stpK; rw [if_neg he2, if_neg ht]
            have HN : Hid (hldL t k l 0 = hldL t k (l.drop (n + 1)) (v)) := Lib.hid (by rw [HX.out, if_neg hkd, es])
            clear es
            clear HX hkd0
            go_wp2_with (first | (go_at_call 102; refine (HE.out _).mono ?_; rintro e w7 ⟨rfl, rfl⟩) | (go_at_call 81; refine (HT.out _).mono ?_; rintro e w7 ⟨rfl, rfl⟩) | (go_at_call 103; refine (HSt.out _).mono ?_; rintro e w7 ⟨rfl, hb7⟩))
            go_roundw
            case rel => exact ⟨n + 1, _, by omega, by go_num, rfl, hb.alloc hbA _, HN⟩
            case measure => simp [intOf]; omega
    · obtain rfl : n = l.length := by omega
      have HN := Lib.hid (HV.out.trans (HEnd.out v))
      go_wp2_with fail
      go_ret
      exact ⟨by rw [HN.out]; rfl, hb⟩
end Go.Proofs.YtneafbhiencjlaaGreatDoor

namespace Go.Proofs.YtneafbhiencjlaaGreatDoor
set_option linter.unusedVariables false
set_option linter.unusedSimpArgs false
open Go.RowKit

theorem partInfo : (Tryz.prog.info? 140).map (fun i => (i.zero, i.size, i.bytes)) = some (some (.agg #[.int .i64 0, .int .i64 0, .int .i64 0]), 3, 24) := by kernel_rfl
abbrev Tri := Int × Int × Int
def gt3 (l : List Tri) (i : Nat) : Tri := l.getD i (0, 0, 0)
/-- The cells of parts. -/
def cl3 (s : List Tri) : List Value := s.flatMap fun p => [.int .i64 p.1, .int .i64 p.2.1, .int .i64 p.2.2]
theorem cl3_app (s : List Tri) (p : Tri) : cl3 (s ++ [p]) = cl3 s ++ [.int .i64 p.1, .int .i64 p.2.1, .int .i64 p.2.2] := by simp [cl3]
theorem cl3_c : ∀ (s : List Tri) (i : Nat), i < s.length → (cl3 s)[i * 3]? = some (.int .i64 (gt3 s i).1) ∧ (cl3 s)[i * 3 + 1]? = some (.int .i64 (gt3 s i).2.1) ∧ (cl3 s)[i * 3 + 2]? = some (.int .i64 (gt3 s i).2.2)
  | [], i, hi => by simp at hi
  | p :: s, 0, hi => by simp [cl3, gt3]
  | p :: s, i + 1, hi => by
    have ih := cl3_c s i (by simpa using hi)
    have e : ∀ c, c < 3 → (cl3 (p :: s))[(i + 1) * 3 + c]? = (cl3 s)[i * 3 + c]? := fun c hc => by
      unfold cl3
      rw [List.flatMap_cons, List.getElem?_append_right (by simp; omega), show (i + 1) * 3 + c - [Value.int .i64 p.1, .int .i64 p.2.1, .int .i64 p.2.2].length = i * 3 + c from by simp; omega]
    have g : gt3 (p :: s) (i + 1) = gt3 s i := rfl
    rw [g]
    exact ⟨(e 0 (by omega)).trans ih.1, (e 1 (by omega)).trans ih.2.1, (e 2 (by omega)).trans ih.2.2⟩
theorem cl3_set : ∀ (s : List Tri) (i : Nat) (b : Int), i < s.length → (cl3 s).set (i * 3 + 1) (.int .i64 b) = cl3 (s.set i ((gt3 s i).1, b, (gt3 s i).2.2))
  | [], i, b, hi => by simp at hi
  | p :: s, 0, b, hi => by simp [cl3, gt3]
  | p :: s, i + 1, b, hi => by
    have ih := cl3_set s i b (by simpa using hi)
    unfold cl3 gt3 at *
    rw [List.flatMap_cons, List.set_append_right _ _ (by simp; omega), show (i + 1) * 3 + 1 - [Value.int .i64 p.1, .int .i64 p.2.1, .int .i64 p.2.2].length = i * 3 + 1 from by simp; omega, ih]
    rfl
/-- A stretch with its value behind the parts so far. -/
def prt1 (acc : List Tri) (x y v : Int) : List Tri := if 0 < acc.length ∧ (gt3 acc (acc.length - 1)).2.2 = v then acc.set (acc.length - 1) ((gt3 acc (acc.length - 1)).1, y, v) else acc ++ [(x, y, v)]
def prtK (z : List Int) (f : Int → Int) : Nat → List Tri
  | 0 => []
  | k + 1 => if k = 0 then [] else prt1 (prtK z f k) (gi z (k - 1)) (gi z k) (f (gi z (k - 1)))
theorem prt1_len (acc : List Tri) (x y v : Int) : (prt1 acc x y v).length ≤ acc.length + 1 := by
  unfold prt1; split
  · simp
  · simp
theorem prtK_len (z : List Int) (f : Int → Int) : ∀ k, (prtK z f k).length ≤ k
  | 0 => Nat.le_refl _
  | k + 1 => by
    rw [prtK]; split
    · simp
    · exact Nat.le_trans (prt1_len _ _ _ _) (Nat.succ_le_succ (prtK_len z f k))
/-- Cuts in order, each once. -/
def ascL (cuts : List Int) : List Int := Lib.compact (srt cuts)
theorem asc_len (cuts : List Int) : (ascL cuts).length ≤ cuts.length := Nat.le_trans (cmp_len _) (Nat.le_of_eq (srt_len _))
theorem cmp_pos {zs : List Int} (h : zs ≠ []) : 0 < (Lib.compact zs).length := by
  unfold Lib.compact Lib.compactUpTo
  rw [List.length_map]
  exact List.length_pos_of_mem (List.mem_filter.2 ⟨List.mem_range.2 (List.length_pos_iff.2 h), Lib.keeps_lt_one _ 0 (by omega)⟩)
theorem asc_pos {cuts : List Int} (h : cuts ≠ []) : 0 < (ascL cuts).length := cmp_pos (fun e => h (by
  have := srt_len cuts
  rw [e] at this
  exact List.eq_nil_of_length_eq_zero this.symm))
theorem cmp_mem {zs : List Int} {x : Int} (h : x ∈ Lib.compact zs) : x ∈ zs := by
  unfold Lib.compact Lib.compactUpTo at h
  rw [List.mem_map] at h
  obtain ⟨j, hj, rfl⟩ := h
  have hl : j < zs.length := List.mem_range.1 (List.mem_filter.1 hj).1
  rw [getElem!_pos _ j (by simpa using hl)]
  simp
theorem asc_mem {cuts : List Int} {k : Nat} (h : k < (ascL cuts).length) : gi (ascL cuts) k ∈ cuts := by
  have h1 : gi (ascL cuts) k ∈ ascL cuts := by unfold gi; rw [List.getD_eq_getElem?_getD, List.getElem?_eq_getElem h]; exact List.getElem_mem h
  exact (srt_perm cuts).mem_iff.1 (cmp_mem h1)
/-- What parts returns. -/
def PrtE (w : World) (z : List Int) (f : Int → Int) (e : Ending) (w' : World) : Prop := ∃ b c, e = .returned (.slice b (prtK z f z.length).length c) ∧ w'.ownsRow w.heap.size 140 3 (.slice b (prtK z f z.length).length c) (prtK z f z.length).length (cl3 (prtK z f z.length)) ∧ Below w.heap.size w w'
set_option maxRecDepth 100000 in
set_option maxHeartbeats 4000000 in
theorem partsT_r (a : Option Addr) (cuts : List Int) (ca : Nat) (lb : Array Value) (f : Int → Int) (w : World) (hA : IntsS w a cuts) (hne : cuts ≠ []) (hn : cuts.length ≤ 1000000)
    (hf : ∀ m W, m ∈ cuts → Below w.heap.size w W → Calls Tryz.prog 65 (#[.int .i64 m] ++ lb) W fun e w' => e = .returned (.int .i64 (f m)) ∧ Below W.heap.size W w') :
    Calls Tryz.prog 95 #[.slice a cuts.length ca, .func (.func 65) #[] lb] w (PrtE w (ascL cuts) f) := by
  obtain ⟨hlen, -, blk, off, hadr, hc⟩ := hA
  obtain rfl := hadr hne
  have HV := Lib.hid (fun W => values_in (some ⟨blk, off, none⟩) cuts.length ca W)
  have hbk : blk < w.heap.size := block_lt (hc 0 (by cases cuts with | nil => exact absurd rfl hne | cons x l => simp))
  have HS := Lib.hid (sorted_in w.heap.size blk off ca cuts (by omega) (w.alloc (.cells #[.slice (some ⟨blk, off, none⟩) cuts.length ca] 22)) (by simp) (by simp; omega) (by simp [go_sem]) (fun j hj => by
    rw [((Below.refl w.heap.size w).alloc (Nat.le_refl _) _).cell (p := ⟨blk, off + j, none⟩) hbk, hc j hj]; simp [gi]))
  have HC := Lib.hid (fun W a c (h : W.ownsRow (w.heap.size + 1) 3 1 (.slice a cuts.length c) cuts.length (clI (srt cuts))) => compact_own (w.heap.size + 1) c a (srt cuts) W (by rw [srt_len]; exact h) (by rw [srt_len]; omega))
  have HF := Lib.hid hf
  have HZ : Hid (0 < (ascL cuts).length ∧ (ascL cuts).length ≤ cuts.length ∧ ∀ k, k < (ascL cuts).length → gi (ascL cuts) k ∈ cuts) := Lib.hid ⟨asc_pos hne, asc_len cuts, fun k hk => asc_mem hk⟩
  have HL : Hid (Lib.compact (srt cuts) = ascL cuts) := Lib.hid rfl
  rw [HL.out, srt_len] at HC
  generalize ascL cuts = z at *
  obtain ⟨n0, hi, hz0, hz1, hz2⟩ := info_parts partInfo
  clear hf hc hadr HL hlen
  go_enter Tryz.func95, Tryz.ntmps95
  go_wp2_with (first | (go_at_call 72; refine (HV.out _).mono ?_; rintro e w7 ⟨rfl, rfl⟩) | (go_at_call 71; refine HS.out.mono ?_; rintro e w8 ⟨a8, c8, rfl, hr8, hb8⟩; have HC8 := Lib.hid (HC.out _ _ _ (by simpa using hr8)); have hz8 := hb8.size) | (go_at_call 70; refine HC8.out.mono ?_; rintro e w9 ⟨rfl, hr9, hb9⟩))
  have hbo : Below w.heap.size w w9 := ((Below.refl w.heap.size w).alloc (Nat.le_refl _) _).trans ((hb8.mono (by simp)).trans ((hb9 (by simp at hz8; omega)).mono (by omega)))
  have HOwn := Lib.hid hr9
  clear hr9 hb9 hb8 hr8 HC HC8 HS HV hz8
  have HCz : Hid (∀ k, k < z.length → ∃ g, a8 = some ⟨g, 0, none⟩ ∧ w9.cell? ⟨g, k, none⟩ = some (.int .i64 (gi z k))) := Lib.hid fun k hk => by
    have h := HOwn.out
    rcases h.2 with ⟨h1, h2⟩ | ⟨g2, c2, cur, h1, _⟩
    · omega
    · obtain ⟨rfl, rfl⟩ : a8 = some ⟨g2, 0, none⟩ ∧ c8 = c2 := by simpa using h1
      refine ⟨g2, rfl, ?_⟩
      rw [World.ownsRow.cellAt h k (by omega)]
      exact clI_get z (by omega)
  clear HOwn
  obtain ⟨hzp, hzl, -⟩ := HZ.out
  obtain ⟨wo, rfl⟩ : ∃ wo : World, wo = w9 := ⟨_, rfl⟩
  go_wp2_with fail
  go_loopw [6, 7] (fun q i wr => ∃ k : Nat, 0 < k ∧ k ≤ z.length ∧ i = .int .i64 k ∧ (∃ a c, q = .slice a (prtK z f k).length c) ∧ Hid (wr.ownsRow wo.heap.size 140 3 q (prtK z f k).length (cl3 (prtK z f k))) ∧ Below wo.heap.size wo wr) (fun _ i _ => z.length - (intOf i).toNat)
  case atStart => exact ⟨1, by omega, by omega, rfl, ⟨none, 0, rfl⟩, Lib.hid ⟨rfl, .inl ⟨rfl, rfl⟩⟩, Below.refl _ _⟩
  case round =>
    obtain ⟨k, hk0, hk, rfl, ⟨av, cv, rfl⟩, HRow, hbr⟩ := hrel
    by_cases hlt : k < z.length
    · have hkl := prtK_len z f k
      obtain ⟨t, hti⟩ : ∃ t : Nat, (k : Int) - 1 = (t : Int) := ⟨k - 1, by omega⟩
      have htz : t < z.length := by omega
      have htw : IntKind.i64.wrap ((k : Int) - 1) = (t : Int) := by rw [hti]; exact IntWalk.i64_in _ (by omega)
      obtain ⟨g, rfl, c0⟩ := HCz.out t htz
      obtain ⟨g', hg', c1⟩ := HCz.out k hlt
      obtain rfl : g = g' := by simpa using hg'
      have c0 := cell_below c0 hbr
      have c1 := cell_below c1 hbr
      have hmx := HZ.out.2.2 t htz
      have hbw := hbo.trans (hbr.mono hbo.size)
      have HN : Hid (prtK z f (k + 1) = prt1 (prtK z f k) (gi z t) (gi z k) (f (gi z t))) := Lib.hid (by rw [prtK, if_neg (by omega), show k - 1 = t by omega])
      have HFx := Lib.hid (fun W (hW : Below w.heap.size w W) => HF.out (gi z t) W hmx hW)
      clear hg' hmx HCz HF HZ
      generalize f (gi z t) = v at *
      generalize gi z t = x at *
      generalize gi z k = y at *
      obtain ⟨S, hS⟩ : ∃ S, prtK z f k = S := ⟨_, rfl⟩
      rw [hS] at HN HRow hkl ⊢
      clear hS
      have hk64 : (k : Int) < (z.length : Int) := by omega
      go_wp2_with fail
      go_quiet (fail)
      have hbA := below_drewN hbr nq
      have hbB := below_drewN hbw nq
      have HRow := Lib.hid (owns_belowI HRow.out (below_drewN (Below.refl wr.heap.size wr) nq))
      generalize wr.drewN nq = wA at hbA hbB HRow ⊢
      clear c0 c1
      go_wp2_with fail
      refine (HFx.out _ hbB).mono ?_
      rintro e w7 ⟨rfl, hb7⟩
      have hbA := hbA.trans (hb7.mono hbA.size)
      have HRow := Lib.hid (owns_belowI HRow.out hb7)
      clear hbB hb7 HFx
      generalize w7 = wA at hbA HRow ⊢
      by_cases h0 : S.length = 0
      · have hS0 := List.eq_nil_of_length_eq_zero h0
        subst hS0
        have HAP : Hid (prtK z f (k + 1) = [(x, y, v)]) := Lib.hid (by rw [HN.out]; rfl)
        clear HN
        have HAP : Hid (0 + 1 = (prtK z f (k + 1)).length ∧ ([] : List Value) ++ [.int .i64 x, .int .i64 y, .int .i64 v] = cl3 (prtK z f (k + 1))) := Lib.hid (by rw [HAP.out]; exact ⟨rfl, rfl⟩)
        have HRow : Hid (wA.ownsRow wo.heap.size 140 3 (.slice av 0 cv) 0 []) := HRow
        clear h0
        have hown := Lib.hid (HRow.out.alloc (.cells #[.int .i64 x, .int .i64 y, .int .i64 v] 140))
        have hbs := hbA.size
        go_wp2_with (first | (at_builtin; go_loud (refine wpList_append_lies _ rfl _ _ 137 rfl wo.heap.size 140 n0 _ 3 24 Tryz.underlying137 hi hz0 hz1 hz2 rfl (by decide) (.slice _ 0 cv) 0 _ (by rfl) hown.out ⟨wA.heap.size, 0, none⟩ 1 1 [.int .i64 x, .int .i64 y, .int .i64 v] (by rfl) (by rfl) ?d1 ?d2 (by decide) ?d3 ?d4 ?d5 _ rfl ?_)))
        case d1 =>
          refine World.news_of_block (cs := #[.int .i64 x, .int .i64 y, .int .i64 v]) (t := 140) (fr := (0, 0)) ?_
          exact heap_alloc_new _ _
        case d2 => simp [Value.oneCell']
        case d3 => unfold maxLen; omega
        case d4 => omega
        case d5 => first | (simp; omega) | simp | omega
        intro g6 c6 w6 hown6 hgrow6 hat6 hlt6
        have hb6 : Below wo.heap.size wo w6 := ((hbA.alloc hbs _).grown hgrow6 (by first | (simp; omega) | simp | omega) (fun z hz => owns_blockI hown.out hz))

        go_wp2_with fail
        go_roundw
        case rel => exact ⟨k + 1, by omega, by omega, by go_num, ⟨_, c6, by rw [← HAP.out.1]⟩, Lib.hid (by rw [← HAP.out.1, ← HAP.out.2]; exact hown6), hb6⟩
        case measure => simp [intOf]; omega
      · obtain ⟨u, hu⟩ : ∃ u, S.length = u + 1 := ⟨S.length - 1, by omega⟩
        have hui : (S.length : Int) - 1 = (u : Int) := by omega
        have hu0 : (0 : Int) ≤ (u : Int) := by omega
        have hu2 : (u : Int) < (S.length : Int) := by omega
        have huw : IntKind.i64.wrap ((S.length : Int) - 1) = (u : Int) := by rw [hui]; exact IntWalk.i64_in _ (by omega)
        obtain ⟨gj, hgj⟩ : ∃ gj, av = some ⟨gj, 0, none⟩ := by
          rcases HRow.out.2 with ⟨h1, h2⟩ | ⟨g2, c2, cur, h1, _⟩
          · omega
          · exact ⟨g2, by simpa using (Value.slice.inj h1).1⟩
        subst hgj
        have cy := World.ownsRow.cellAt HRow.out (u * 3 + 2) (by omega)
        rw [(cl3_c S u (by omega)).2.2] at cy
        have cx := World.ownsRow.cellAt HRow.out (u * 3 + 1) (by omega)
        rw [(cl3_c S u (by omega)).2.1] at cx
        have fx := World.ownsRow.frozenAt HRow.out (u * 3 + 1)
        have hgl : wo.heap.size ≤ gj := by
          rcases HRow.out.2 with ⟨h1, h2⟩ | ⟨g2, c2, cur, h1, h2, _⟩
          · omega
          · have : gj = g2 := by simpa using (Value.slice.inj h1).1
            omega
        have HJ : Hid (prt1 S x y v = if (gt3 S u).2.2 = v then S.set u ((gt3 S u).1, y, v) else S ++ [(x, y, v)]) := Lib.hid (by
          unfold prt1
          rw [show S.length - 1 = u by omega]
          by_cases hx : (gt3 S u).2.2 = v
          · rw [if_pos ⟨by omega, hx⟩, if_pos hx]
          · rw [if_neg (fun h => hx h.2), if_neg hx])
        have HSE := Lib.hid (cl3_set S u y (by omega))
        by_cases hx : (gt3 S u).2.2 = v
        · have hJ := HJ.out
          rw [if_pos hx] at hJ
          have HNn : Hid (prtK z f (k + 1) = S.set u ((gt3 S u).1, y, (gt3 S u).2.2)) := Lib.hid (by rw [HN.out, hJ, hx])
          clear hJ HJ HN
          have HST : Hid (∀ W : World, W.ownsRow wo.heap.size 140 3 (.slice (some ⟨gj, 0, none⟩) S.length cv) S.length (cl3 S) → (W.setCell ⟨gj, u * 3 + 1, none⟩ (.int .i64 y)).ownsRow wo.heap.size 140 3 (.slice (some ⟨gj, 0, none⟩) (prtK z f (k + 1)).length cv) (prtK z f (k + 1)).length (cl3 (prtK z f (k + 1)))) := Lib.hid fun W h => by
            rw [HNn.out, List.length_set, ← HSE.out]
            exact (World.ownsRow.stored h (u * 3 + 1) (.int .i64 y)).1
          have HLn : Hid ((prtK z f (k + 1)).length = S.length) := Lib.hid (by rw [HNn.out, List.length_set])
          clear HNn HSE hu
          generalize (gt3 S u).2.2 = q at *
          generalize (gt3 S u).2.1 = q1 at *
          subst hx
          go_wp2_with fail
          go_roundw
          case rel => exact ⟨k + 1, by omega, by omega, by go_num, ⟨_, cv, by rw [HLn.out]⟩, Lib.hid (by have := HST.out _ HRow.out; rwa [HLn.out] at this ⊢), hbA.setCell (p := ⟨gj, u * 3 + 1, none⟩) hgl _⟩
          case measure => simp [intOf]; omega
        · have hJ := HJ.out
          rw [if_neg hx] at hJ
          have HAP : Hid (S.length + 1 = (prtK z f (k + 1)).length ∧ cl3 S ++ [.int .i64 x, .int .i64 y, .int .i64 v] = cl3 (prtK z f (k + 1))) := Lib.hid (by rw [HN.out, hJ, cl3_app]; exact ⟨by simp, rfl⟩)
          clear hJ HJ HN hu cx fx HSE
          generalize (gt3 S u).2.2 = q at *
          have hqv : (q == v) = false := beq_false_of_ne hx
          have hown := Lib.hid (HRow.out.alloc (.cells #[.int .i64 x, .int .i64 y, .int .i64 v] 140))
          have hbs := hbA.size
          go_wp2_with (first | (at_builtin; go_loud (refine wpList_append_lies _ rfl _ _ 137 rfl wo.heap.size 140 n0 _ 3 24 Tryz.underlying137 hi hz0 hz1 hz2 rfl (by decide) (.slice _ S.length cv) S.length _ (by rfl) hown.out ⟨wA.heap.size, 0, none⟩ 1 1 [.int .i64 x, .int .i64 y, .int .i64 v] (by rfl) (by rfl) ?d1 ?d2 (by decide) ?d3 ?d4 ?d5 _ rfl ?_)))
          case d1 =>
            refine World.news_of_block (cs := #[.int .i64 x, .int .i64 y, .int .i64 v]) (t := 140) (fr := (0, 0)) ?_
            exact heap_alloc_new _ _
          case d2 => simp [Value.oneCell']
          case d3 => unfold maxLen; omega
          case d4 => omega
          case d5 => first | (simp; omega) | simp | omega
          intro g6 c6 w6 hown6 hgrow6 hat6 hlt6
          have hb6 : Below wo.heap.size wo w6 := ((hbA.alloc hbs _).grown hgrow6 (by first | (simp; omega) | simp | omega) (fun z hz => owns_blockI hown.out hz))

          go_wp2_with fail
          go_roundw
          case rel => exact ⟨k + 1, by omega, by omega, by go_num, ⟨_, c6, by rw [← HAP.out.1]⟩, Lib.hid (by rw [← HAP.out.1, ← HAP.out.2]; exact hown6), hb6⟩
          case measure => simp [intOf]; omega
    · obtain rfl : k = z.length := by omega
      have hbw := hbo.trans (hbr.mono hbo.size)
      have HEnd : Hid (PrtE w z f (.returned (.slice av (prtK z f z.length).length cv)) wr) := Lib.hid ⟨av, cv, rfl, owns_baseI HRow.out hbo.size, hbw⟩
      clear HRow
      go_wp2_with fail
      go_ret
      exact HEnd.out
end Go.Proofs.YtneafbhiencjlaaGreatDoor
