/-
  Signs in memory; signValid of package rule. By an AI agent.
-/
import Derived.Test.YtiagflackfkmnaaGreatRuB
import Derived.Deep.RegionHeld3
import Derived.BigQuiet
namespace Go.Proofs.YtiagflackfkmnaaGreat
set_option linter.unusedVariables false
set_option linter.unusedSimpArgs false
open Go.RowKit

abbrev Spn := Int × Int
theorem pos_ne {n i : Nat} {α : Type} {l : List α} (hi : i < l.length) : l ≠ [] := by rintro rfl; simp at hi
/-- A sign, without its place in memory. -/
structure Sgn where
  n : Int
  k : Int
  v : Int
  c : Int
  d : Int
  rk : Int
  up : Int
  dn : Int
  cv : List Spn
def gs (l : List Sgn) (i : Nat) : Sgn := l.getD i ⟨0, 0, 0, 0, 0, 0, 0, 0, []⟩
/-- A slice of signs. -/
def SgnS (w : World) (a : Option Addr) (l : List Sgn) : Prop :=
  l.length ≤ 9223372036854775807 ∧ ∃ (blk off : Nat) (ad : Nat → Option Addr) (cp : Nat → Nat), (l ≠ [] → a = some ⟨blk, off, none⟩) ∧ ∀ i, i < l.length → (w.cell? ⟨blk, off + i * 9, none⟩ = some (.int .i64 (gs l i).n) ∧ w.cell? ⟨blk, off + i * 9 + 1, none⟩ = some (.int .i64 (gs l i).k) ∧ w.cell? ⟨blk, off + i * 9 + 2, none⟩ = some (.int .i64 (gs l i).v) ∧ w.cell? ⟨blk, off + i * 9 + 3, none⟩ = some (.int .i64 (gs l i).c) ∧ w.cell? ⟨blk, off + i * 9 + 4, none⟩ = some (.int .i64 (gs l i).d) ∧ w.cell? ⟨blk, off + i * 9 + 5, none⟩ = some (.int .i64 (gs l i).rk) ∧ w.cell? ⟨blk, off + i * 9 + 6, none⟩ = some (.int .i64 (gs l i).up) ∧ w.cell? ⟨blk, off + i * 9 + 7, none⟩ = some (.int .i64 (gs l i).dn)) ∧ w.cell? ⟨blk, off + i * 9 + 8, none⟩ = some (.slice (ad i) (gs l i).cv.length (cp i)) ∧ PairsS w (ad i) (gs l i).cv
theorem SgnS.below {w w' : World} {a : Option Addr} {l : List Sgn} (h : SgnS w a l) (hb : Below w.heap.size w w') : SgnS w' a l := by
  obtain ⟨h0, blk, off, ad, cp, h2, h3⟩ := h
  exact ⟨h0, blk, off, ad, cp, h2, fun i hi => by
    obtain ⟨⟨c0, c1, c2, c3, c4, c5, c6, c7⟩, c8, hp⟩ := h3 i hi
    exact ⟨⟨cell_below c0 hb, cell_below c1 hb, cell_below c2 hb, cell_below c3 hb, cell_below c4 hb, cell_below c5 hb, cell_below c6 hb, cell_below c7 hb⟩, cell_below c8 hb, hp.below hb⟩⟩
/-- Are covers right? -/
def covB (l : List Spn) : Bool := !(anyK (fun j => !(timeB (gp l j).1 (gp l j).2)) l.length)
/-- Is a sign valid, its number aside? -/
def sgnB (L : Int) (s : Sgn) : Bool := valB s.k s.v && btw s.c 0 L && dirB s.d && btw s.rk 1 9 && timeB s.up s.dn && decide (s.cv.length ≤ 10) && covB s.cv
theorem cov1_r (x y : Int) (w : World) :
    Calls Tryz.prog 141 (#[.agg #[.int .i64 x, .int .i64 y]] ++ #[]) w fun e w' => e = .returned (.bool (!(timeB x y))) ∧ Below w.heap.size w w' := by
  have HT := Lib.hid (fun W => isTime_r x y W)
  generalize timeB x y = b at *
  go_enter Tryz.func141, Tryz.ntmps141
  go_wp2_with (go_at_call 140; refine (HT.out _).mono ?_; rintro e w' ⟨rfl, rfl⟩)
  go_ret
  exact ⟨rfl, (Below.refl _ _).alloc (Nat.le_refl _) _⟩
set_option maxRecDepth 100000 in
set_option maxHeartbeats 1000000 in
theorem idxCv_any (aa : Option Addr) (l : List (Spn)) (ca : Nat) (lb : Array Value) (p : Nat → Bool) (w : World) (hA : PairsS w aa l)
    (hp : ∀ j W, j < l.length → Below w.heap.size w W → Calls Tryz.prog 141 (#[.agg #[.int .i64 (gp l j).1, .int .i64 (gp l j).2]] ++ lb) W fun e w' => e = .returned (.bool (p j)) ∧ Below W.heap.size W w') :
    Calls Tryz.prog 75 #[.slice aa l.length ca, .func (.func 141) #[] lb] w fun e w' => e = .returned (.int .i64 (idxK p l.length)) ∧ Below w.heap.size w w' := by
  obtain ⟨hlen, -, blk, off, hadr, hc⟩ := hA
  have HP := Lib.hid hp
  have HC := Lib.hid hc
  have HH : Hid (∀ k, k < l.length → p k = true → (∀ j, j < k → p j = false) → idxK p l.length = k) := Lib.hid fun k hk h hb => idxK_hit h hb _ hk
  have HM : Hid ((∀ j, j < l.length → p j = false) → idxK p l.length = -1) := Lib.hid fun h => idxK_miss _ h
  have HL : Hid (0 < l.length → aa = some ⟨blk, off, none⟩) := Lib.hid fun h => hadr (pos_ne (n := 0) h)
  generalize idxK p l.length = R at *
  clear hp hc hadr
  go_enter Tryz.func75, Tryz.ntmps75
  go_wp2_with fail
  go_loopw [8] (fun i wr => ∃ k : Nat, k ≤ l.length ∧ i = .int .i64 k ∧ Below w.heap.size w wr ∧ Hid (∀ j, j < k → p j = false)) (fun i _ => l.length - (intOf i).toNat)
  case atStart => exact ⟨0, Nat.zero_le _, rfl, Below.refl _ _, Lib.hid fun j hj => absurd hj (Nat.not_lt_zero _)⟩
  case round =>
    obtain ⟨k, hk, rfl, hb, HA⟩ := hrel
    by_cases hlt : k < l.length
    · obtain rfl := HL.out (by omega)
      obtain ⟨c0, c1⟩ := HC.out k hlt
      have c0 := cell_below c0 hb
      have c1 := cell_below c1 hb
      have HK := Lib.hid (fun W => HP.out k W hlt)
      have HHk := Lib.hid (HH.out k hlt)
      have HN : Hid (p k = false → ∀ j, j < k + 1 → p j = false) := Lib.hid fun h j hj => by
        by_cases e : j = k
        · subst e; exact h
        · exact HA.out j (by omega)
      clear HP HC HM HL HH
      generalize (gp l k).1 = x0 at *
      generalize (gp l k).2 = x1 at *
      cases hpk : p k with
      | true =>
        have HR := Lib.hid (HHk.out hpk HA.out)
        rw [hpk] at HK
        clear hpk HHk HN
        go_wp2_with fail
        refine (HK.out _ hb).mono ?_
        rintro e w1 ⟨rfl, hb1⟩
        go_wp2_with fail
        go_ret
        rw [HR.out]
        exact ⟨rfl, hb.trans (hb1.mono hb.size)⟩
      | false =>
        have HR := Lib.hid (HN.out hpk)
        rw [hpk] at HK
        clear hpk HHk HN
        go_wp2_with fail
        refine (HK.out _ hb).mono ?_
        rintro e w1 ⟨rfl, hb1⟩
        go_wp2_with fail
        go_roundw
        case rel => exact ⟨k + 1, by omega, by go_num, hb.trans (hb1.mono hb.size), HR⟩
        case measure => simp [intOf]; omega
    · obtain rfl : k = l.length := by omega
      have HR := Lib.hid (HM.out HA.out)
      go_wp2_with fail
      go_ret
      rw [HR.out]
      exact ⟨rfl, hb⟩

set_option maxRecDepth 100000 in
theorem containsCv_any (aa : Option Addr) (l : List (Spn)) (ca : Nat) (lb : Array Value) (p : Nat → Bool) (w : World) (hA : PairsS w aa l)
    (hp : ∀ j W, j < l.length → Below w.heap.size w W → Calls Tryz.prog 141 (#[.agg #[.int .i64 (gp l j).1, .int .i64 (gp l j).2]] ++ lb) W fun e w' => e = .returned (.bool (p j)) ∧ Below W.heap.size W w') :
    Calls Tryz.prog 42 #[.slice aa l.length ca, .func (.func 141) #[] lb] w fun e w' => e = .returned (.bool (anyK p l.length)) ∧ Below w.heap.size w w' := by
  have H := Lib.hid (idxCv_any aa l ca lb p w hA hp)
  have hq := Lib.hid (idxK_any p l.length)
  clear hp hA
  generalize idxK p l.length = R at *
  generalize anyK p l.length = B at *
  have hq := hq.out
  subst hq
  go_enter Tryz.func42, Tryz.ntmps42
  go_wp2_with fail
  refine H.out.mono ?_
  rintro e w1 ⟨rfl, hb1⟩
  go_wp2_with fail
  all_goals
    go_ret
    exact ⟨by simp_all, hb1⟩

set_option maxRecDepth 100000 in
set_option maxHeartbeats 1000000 in
theorem signValid_r (L : Int) (a : Option Addr) (js : List Int) (ca : Nat) (s : Sgn) (ad : Option Addr) (cp : Nat) (w : World) (hP : PairsS w ad s.cv) :
    Calls Tryz.prog 111 #[.agg #[.int .i64 L, .slice a js.length ca], .agg #[.int .i64 s.n, .int .i64 s.k, .int .i64 s.v, .int .i64 s.c, .int .i64 s.d, .int .i64 s.rk, .int .i64 s.up, .int .i64 s.dn, .slice ad s.cv.length cp]] w fun e w' => e = .returned (.bool (sgnB L s)) ∧ Below w.heap.size w w' := by
  have H0 := Lib.hid (fun W => valueValid_r s.k s.v W)
  have H1 := Lib.hid (fun W => within_r 0 L s.c W)
  have H2 := Lib.hid (fun W => isDir_r s.d W)
  have H3 := Lib.hid (fun W => within_r 1 9 s.rk W)
  have H4 := Lib.hid (fun W => isTime_r s.up s.dn W)
  have H5 := Lib.hid (fun W (hW : Below w.heap.size w W) => containsCv_any ad s.cv cp #[] (fun j => !(timeB (gp s.cv j).1 (gp s.cv j).2)) W (hP.below hW) (fun j W' _ _ => cov1_r _ _ W'))
  have hlen := hP.1
  have HV : Hid (sgnB L s = (valB s.k s.v && btw s.c 0 L && dirB s.d && btw s.rk 1 9 && timeB s.up s.dn && decide (s.cv.length ≤ 10) && covB s.cv)) := Lib.hid rfl
  have hcv : anyK (fun j => !(timeB (gp s.cv j).1 (gp s.cv j).2)) s.cv.length = !(covB s.cv) := by unfold covB; simp
  rw [hcv] at H5
  clear hcv hP
  cases g0 : valB s.k s.v with
  | false =>
    rw [g0] at H0
    have HR : Hid (sgnB L s = false) := Lib.hid (by rw [HV.out, g0]; simp)
    clear HV H5 g0
    go_enter Tryz.func111, Tryz.ntmps111
    go_wp2_with fail
    obtain ⟨wB, hwB⟩ : ∃ wB, (w.alloc (.cells #[.int .i64 L, .slice a js.length ca] 24)).alloc (.cells #[.int .i64 s.n, .int .i64 s.k, .int .i64 s.v, .int .i64 s.c, .int .i64 s.d, .int .i64 s.rk, .int .i64 s.up, .int .i64 s.dn, .slice ad s.cv.length cp] 34) = wB := ⟨_, rfl⟩
    have hb : Below w.heap.size w wB := by rw [← hwB]; exact ((Below.refl _ _).alloc (Nat.le_refl _) _).alloc (by simp) _
    have p0 : wB.cell? ⟨w.heap.size, 0, none⟩ = some (.int .i64 L) := by rw [← hwB]; simp [go_sem]
    have q0 : wB.cell? ⟨w.heap.size + 1, 0, none⟩ = some (.int .i64 s.n) := by rw [← hwB]; simp [go_sem]
    have q1 : wB.cell? ⟨w.heap.size + 1, 1, none⟩ = some (.int .i64 s.k) := by rw [← hwB]; simp [go_sem]
    have q2 : wB.cell? ⟨w.heap.size + 1, 2, none⟩ = some (.int .i64 s.v) := by rw [← hwB]; simp [go_sem]
    have q3 : wB.cell? ⟨w.heap.size + 1, 3, none⟩ = some (.int .i64 s.c) := by rw [← hwB]; simp [go_sem]
    have q4 : wB.cell? ⟨w.heap.size + 1, 4, none⟩ = some (.int .i64 s.d) := by rw [← hwB]; simp [go_sem]
    have q5 : wB.cell? ⟨w.heap.size + 1, 5, none⟩ = some (.int .i64 s.rk) := by rw [← hwB]; simp [go_sem]
    have q6 : wB.cell? ⟨w.heap.size + 1, 6, none⟩ = some (.int .i64 s.up) := by rw [← hwB]; simp [go_sem]
    have q7 : wB.cell? ⟨w.heap.size + 1, 7, none⟩ = some (.int .i64 s.dn) := by rw [← hwB]; simp [go_sem]
    have q8 : wB.cell? ⟨w.heap.size + 1, 8, none⟩ = some (.slice ad s.cv.length cp) := by rw [← hwB]; simp [go_sem]
    rw [hwB]
    clear hwB
    go_wp2_with (first | (go_at_call 139; refine (H0.out _).mono ?_; rintro e w7 ⟨rfl, rfl⟩) | (go_at_call_of 79 (Value.int .i64 0); refine (H1.out _).mono ?_; rintro e w7 ⟨rfl, rfl⟩) | (go_at_call 46; refine (H2.out _).mono ?_; rintro e w7 ⟨rfl, rfl⟩) | (go_at_call_of 79 (Value.int .i64 1); refine (H3.out _).mono ?_; rintro e w7 ⟨rfl, rfl⟩) | (go_at_call 140; refine (H4.out _).mono ?_; rintro e w7 ⟨rfl, rfl⟩))
    go_ret
    exact ⟨by rw [HR.out]; rfl, hb⟩
  | true =>
    rw [g0] at H0
    cases g1 : btw s.c 0 L with
    | false =>
      rw [g1] at H1
      have HR : Hid (sgnB L s = false) := Lib.hid (by rw [HV.out, g0, g1]; simp)
      clear HV H5 g0 g1
      go_enter Tryz.func111, Tryz.ntmps111
      go_wp2_with fail
      obtain ⟨wB, hwB⟩ : ∃ wB, (w.alloc (.cells #[.int .i64 L, .slice a js.length ca] 24)).alloc (.cells #[.int .i64 s.n, .int .i64 s.k, .int .i64 s.v, .int .i64 s.c, .int .i64 s.d, .int .i64 s.rk, .int .i64 s.up, .int .i64 s.dn, .slice ad s.cv.length cp] 34) = wB := ⟨_, rfl⟩
      have hb : Below w.heap.size w wB := by rw [← hwB]; exact ((Below.refl _ _).alloc (Nat.le_refl _) _).alloc (by simp) _
      have p0 : wB.cell? ⟨w.heap.size, 0, none⟩ = some (.int .i64 L) := by rw [← hwB]; simp [go_sem]
      have q0 : wB.cell? ⟨w.heap.size + 1, 0, none⟩ = some (.int .i64 s.n) := by rw [← hwB]; simp [go_sem]
      have q1 : wB.cell? ⟨w.heap.size + 1, 1, none⟩ = some (.int .i64 s.k) := by rw [← hwB]; simp [go_sem]
      have q2 : wB.cell? ⟨w.heap.size + 1, 2, none⟩ = some (.int .i64 s.v) := by rw [← hwB]; simp [go_sem]
      have q3 : wB.cell? ⟨w.heap.size + 1, 3, none⟩ = some (.int .i64 s.c) := by rw [← hwB]; simp [go_sem]
      have q4 : wB.cell? ⟨w.heap.size + 1, 4, none⟩ = some (.int .i64 s.d) := by rw [← hwB]; simp [go_sem]
      have q5 : wB.cell? ⟨w.heap.size + 1, 5, none⟩ = some (.int .i64 s.rk) := by rw [← hwB]; simp [go_sem]
      have q6 : wB.cell? ⟨w.heap.size + 1, 6, none⟩ = some (.int .i64 s.up) := by rw [← hwB]; simp [go_sem]
      have q7 : wB.cell? ⟨w.heap.size + 1, 7, none⟩ = some (.int .i64 s.dn) := by rw [← hwB]; simp [go_sem]
      have q8 : wB.cell? ⟨w.heap.size + 1, 8, none⟩ = some (.slice ad s.cv.length cp) := by rw [← hwB]; simp [go_sem]
      rw [hwB]
      clear hwB
      go_wp2_with (first | (go_at_call 139; refine (H0.out _).mono ?_; rintro e w7 ⟨rfl, rfl⟩) | (go_at_call_of 79 (Value.int .i64 0); refine (H1.out _).mono ?_; rintro e w7 ⟨rfl, rfl⟩) | (go_at_call 46; refine (H2.out _).mono ?_; rintro e w7 ⟨rfl, rfl⟩) | (go_at_call_of 79 (Value.int .i64 1); refine (H3.out _).mono ?_; rintro e w7 ⟨rfl, rfl⟩) | (go_at_call 140; refine (H4.out _).mono ?_; rintro e w7 ⟨rfl, rfl⟩))
      go_ret
      exact ⟨by rw [HR.out]; rfl, hb⟩
    | true =>
      rw [g1] at H1
      cases g2 : dirB s.d with
      | false =>
        rw [g2] at H2
        have HR : Hid (sgnB L s = false) := Lib.hid (by rw [HV.out, g0, g1, g2]; simp)
        clear HV H5 g0 g1 g2
        go_enter Tryz.func111, Tryz.ntmps111
        go_wp2_with fail
        obtain ⟨wB, hwB⟩ : ∃ wB, (w.alloc (.cells #[.int .i64 L, .slice a js.length ca] 24)).alloc (.cells #[.int .i64 s.n, .int .i64 s.k, .int .i64 s.v, .int .i64 s.c, .int .i64 s.d, .int .i64 s.rk, .int .i64 s.up, .int .i64 s.dn, .slice ad s.cv.length cp] 34) = wB := ⟨_, rfl⟩
        have hb : Below w.heap.size w wB := by rw [← hwB]; exact ((Below.refl _ _).alloc (Nat.le_refl _) _).alloc (by simp) _
        have p0 : wB.cell? ⟨w.heap.size, 0, none⟩ = some (.int .i64 L) := by rw [← hwB]; simp [go_sem]
        have q0 : wB.cell? ⟨w.heap.size + 1, 0, none⟩ = some (.int .i64 s.n) := by rw [← hwB]; simp [go_sem]
        have q1 : wB.cell? ⟨w.heap.size + 1, 1, none⟩ = some (.int .i64 s.k) := by rw [← hwB]; simp [go_sem]
        have q2 : wB.cell? ⟨w.heap.size + 1, 2, none⟩ = some (.int .i64 s.v) := by rw [← hwB]; simp [go_sem]
        have q3 : wB.cell? ⟨w.heap.size + 1, 3, none⟩ = some (.int .i64 s.c) := by rw [← hwB]; simp [go_sem]
        have q4 : wB.cell? ⟨w.heap.size + 1, 4, none⟩ = some (.int .i64 s.d) := by rw [← hwB]; simp [go_sem]
        have q5 : wB.cell? ⟨w.heap.size + 1, 5, none⟩ = some (.int .i64 s.rk) := by rw [← hwB]; simp [go_sem]
        have q6 : wB.cell? ⟨w.heap.size + 1, 6, none⟩ = some (.int .i64 s.up) := by rw [← hwB]; simp [go_sem]
        have q7 : wB.cell? ⟨w.heap.size + 1, 7, none⟩ = some (.int .i64 s.dn) := by rw [← hwB]; simp [go_sem]
        have q8 : wB.cell? ⟨w.heap.size + 1, 8, none⟩ = some (.slice ad s.cv.length cp) := by rw [← hwB]; simp [go_sem]
        rw [hwB]
        clear hwB
        go_wp2_with (first | (go_at_call 139; refine (H0.out _).mono ?_; rintro e w7 ⟨rfl, rfl⟩) | (go_at_call_of 79 (Value.int .i64 0); refine (H1.out _).mono ?_; rintro e w7 ⟨rfl, rfl⟩) | (go_at_call 46; refine (H2.out _).mono ?_; rintro e w7 ⟨rfl, rfl⟩) | (go_at_call_of 79 (Value.int .i64 1); refine (H3.out _).mono ?_; rintro e w7 ⟨rfl, rfl⟩) | (go_at_call 140; refine (H4.out _).mono ?_; rintro e w7 ⟨rfl, rfl⟩))
        go_ret
        exact ⟨by rw [HR.out]; rfl, hb⟩
      | true =>
        rw [g2] at H2
        cases g3 : btw s.rk 1 9 with
        | false =>
          rw [g3] at H3
          have HR : Hid (sgnB L s = false) := Lib.hid (by rw [HV.out, g0, g1, g2, g3]; simp)
          clear HV H5 g0 g1 g2 g3
          go_enter Tryz.func111, Tryz.ntmps111
          go_wp2_with fail
          obtain ⟨wB, hwB⟩ : ∃ wB, (w.alloc (.cells #[.int .i64 L, .slice a js.length ca] 24)).alloc (.cells #[.int .i64 s.n, .int .i64 s.k, .int .i64 s.v, .int .i64 s.c, .int .i64 s.d, .int .i64 s.rk, .int .i64 s.up, .int .i64 s.dn, .slice ad s.cv.length cp] 34) = wB := ⟨_, rfl⟩
          have hb : Below w.heap.size w wB := by rw [← hwB]; exact ((Below.refl _ _).alloc (Nat.le_refl _) _).alloc (by simp) _
          have p0 : wB.cell? ⟨w.heap.size, 0, none⟩ = some (.int .i64 L) := by rw [← hwB]; simp [go_sem]
          have q0 : wB.cell? ⟨w.heap.size + 1, 0, none⟩ = some (.int .i64 s.n) := by rw [← hwB]; simp [go_sem]
          have q1 : wB.cell? ⟨w.heap.size + 1, 1, none⟩ = some (.int .i64 s.k) := by rw [← hwB]; simp [go_sem]
          have q2 : wB.cell? ⟨w.heap.size + 1, 2, none⟩ = some (.int .i64 s.v) := by rw [← hwB]; simp [go_sem]
          have q3 : wB.cell? ⟨w.heap.size + 1, 3, none⟩ = some (.int .i64 s.c) := by rw [← hwB]; simp [go_sem]
          have q4 : wB.cell? ⟨w.heap.size + 1, 4, none⟩ = some (.int .i64 s.d) := by rw [← hwB]; simp [go_sem]
          have q5 : wB.cell? ⟨w.heap.size + 1, 5, none⟩ = some (.int .i64 s.rk) := by rw [← hwB]; simp [go_sem]
          have q6 : wB.cell? ⟨w.heap.size + 1, 6, none⟩ = some (.int .i64 s.up) := by rw [← hwB]; simp [go_sem]
          have q7 : wB.cell? ⟨w.heap.size + 1, 7, none⟩ = some (.int .i64 s.dn) := by rw [← hwB]; simp [go_sem]
          have q8 : wB.cell? ⟨w.heap.size + 1, 8, none⟩ = some (.slice ad s.cv.length cp) := by rw [← hwB]; simp [go_sem]
          rw [hwB]
          clear hwB
          go_wp2_with (first | (go_at_call 139; refine (H0.out _).mono ?_; rintro e w7 ⟨rfl, rfl⟩) | (go_at_call_of 79 (Value.int .i64 0); refine (H1.out _).mono ?_; rintro e w7 ⟨rfl, rfl⟩) | (go_at_call 46; refine (H2.out _).mono ?_; rintro e w7 ⟨rfl, rfl⟩) | (go_at_call_of 79 (Value.int .i64 1); refine (H3.out _).mono ?_; rintro e w7 ⟨rfl, rfl⟩) | (go_at_call 140; refine (H4.out _).mono ?_; rintro e w7 ⟨rfl, rfl⟩))
          go_ret
          exact ⟨by rw [HR.out]; rfl, hb⟩
        | true =>
          rw [g3] at H3
          cases g4 : timeB s.up s.dn with
          | false =>
            rw [g4] at H4
            have HR : Hid (sgnB L s = false) := Lib.hid (by rw [HV.out, g0, g1, g2, g3, g4]; simp)
            clear HV H5 g0 g1 g2 g3 g4
            go_enter Tryz.func111, Tryz.ntmps111
            go_wp2_with fail
            obtain ⟨wB, hwB⟩ : ∃ wB, (w.alloc (.cells #[.int .i64 L, .slice a js.length ca] 24)).alloc (.cells #[.int .i64 s.n, .int .i64 s.k, .int .i64 s.v, .int .i64 s.c, .int .i64 s.d, .int .i64 s.rk, .int .i64 s.up, .int .i64 s.dn, .slice ad s.cv.length cp] 34) = wB := ⟨_, rfl⟩
            have hb : Below w.heap.size w wB := by rw [← hwB]; exact ((Below.refl _ _).alloc (Nat.le_refl _) _).alloc (by simp) _
            have p0 : wB.cell? ⟨w.heap.size, 0, none⟩ = some (.int .i64 L) := by rw [← hwB]; simp [go_sem]
            have q0 : wB.cell? ⟨w.heap.size + 1, 0, none⟩ = some (.int .i64 s.n) := by rw [← hwB]; simp [go_sem]
            have q1 : wB.cell? ⟨w.heap.size + 1, 1, none⟩ = some (.int .i64 s.k) := by rw [← hwB]; simp [go_sem]
            have q2 : wB.cell? ⟨w.heap.size + 1, 2, none⟩ = some (.int .i64 s.v) := by rw [← hwB]; simp [go_sem]
            have q3 : wB.cell? ⟨w.heap.size + 1, 3, none⟩ = some (.int .i64 s.c) := by rw [← hwB]; simp [go_sem]
            have q4 : wB.cell? ⟨w.heap.size + 1, 4, none⟩ = some (.int .i64 s.d) := by rw [← hwB]; simp [go_sem]
            have q5 : wB.cell? ⟨w.heap.size + 1, 5, none⟩ = some (.int .i64 s.rk) := by rw [← hwB]; simp [go_sem]
            have q6 : wB.cell? ⟨w.heap.size + 1, 6, none⟩ = some (.int .i64 s.up) := by rw [← hwB]; simp [go_sem]
            have q7 : wB.cell? ⟨w.heap.size + 1, 7, none⟩ = some (.int .i64 s.dn) := by rw [← hwB]; simp [go_sem]
            have q8 : wB.cell? ⟨w.heap.size + 1, 8, none⟩ = some (.slice ad s.cv.length cp) := by rw [← hwB]; simp [go_sem]
            rw [hwB]
            clear hwB
            go_wp2_with (first | (go_at_call 139; refine (H0.out _).mono ?_; rintro e w7 ⟨rfl, rfl⟩) | (go_at_call_of 79 (Value.int .i64 0); refine (H1.out _).mono ?_; rintro e w7 ⟨rfl, rfl⟩) | (go_at_call 46; refine (H2.out _).mono ?_; rintro e w7 ⟨rfl, rfl⟩) | (go_at_call_of 79 (Value.int .i64 1); refine (H3.out _).mono ?_; rintro e w7 ⟨rfl, rfl⟩) | (go_at_call 140; refine (H4.out _).mono ?_; rintro e w7 ⟨rfl, rfl⟩))
            go_ret
            exact ⟨by rw [HR.out]; rfl, hb⟩
          | true =>
            rw [g4] at H4
            by_cases h10 : s.cv.length ≤ 10
            · have d10 : decide ((s.cv.length : Int) ≤ 10) = true := decide_eq_true (by omega)
              have HR : Hid (sgnB L s = covB s.cv) := Lib.hid (by rw [HV.out, g0, g1, g2, g3, g4, decide_eq_true h10]; simp)
              generalize covB s.cv = B at *
              clear HV g0 g1 g2 g3 g4
              go_enter Tryz.func111, Tryz.ntmps111
              go_wp2_with fail
              obtain ⟨wB, hwB⟩ : ∃ wB, (w.alloc (.cells #[.int .i64 L, .slice a js.length ca] 24)).alloc (.cells #[.int .i64 s.n, .int .i64 s.k, .int .i64 s.v, .int .i64 s.c, .int .i64 s.d, .int .i64 s.rk, .int .i64 s.up, .int .i64 s.dn, .slice ad s.cv.length cp] 34) = wB := ⟨_, rfl⟩
              have hb : Below w.heap.size w wB := by rw [← hwB]; exact ((Below.refl _ _).alloc (Nat.le_refl _) _).alloc (by simp) _
              have p0 : wB.cell? ⟨w.heap.size, 0, none⟩ = some (.int .i64 L) := by rw [← hwB]; simp [go_sem]
              have q0 : wB.cell? ⟨w.heap.size + 1, 0, none⟩ = some (.int .i64 s.n) := by rw [← hwB]; simp [go_sem]
              have q1 : wB.cell? ⟨w.heap.size + 1, 1, none⟩ = some (.int .i64 s.k) := by rw [← hwB]; simp [go_sem]
              have q2 : wB.cell? ⟨w.heap.size + 1, 2, none⟩ = some (.int .i64 s.v) := by rw [← hwB]; simp [go_sem]
              have q3 : wB.cell? ⟨w.heap.size + 1, 3, none⟩ = some (.int .i64 s.c) := by rw [← hwB]; simp [go_sem]
              have q4 : wB.cell? ⟨w.heap.size + 1, 4, none⟩ = some (.int .i64 s.d) := by rw [← hwB]; simp [go_sem]
              have q5 : wB.cell? ⟨w.heap.size + 1, 5, none⟩ = some (.int .i64 s.rk) := by rw [← hwB]; simp [go_sem]
              have q6 : wB.cell? ⟨w.heap.size + 1, 6, none⟩ = some (.int .i64 s.up) := by rw [← hwB]; simp [go_sem]
              have q7 : wB.cell? ⟨w.heap.size + 1, 7, none⟩ = some (.int .i64 s.dn) := by rw [← hwB]; simp [go_sem]
              have q8 : wB.cell? ⟨w.heap.size + 1, 8, none⟩ = some (.slice ad s.cv.length cp) := by rw [← hwB]; simp [go_sem]
              rw [hwB]
              clear hwB
              go_wp2_with (first | (go_at_call 139; refine (H0.out _).mono ?_; rintro e w7 ⟨rfl, rfl⟩) | (go_at_call_of 79 (Value.int .i64 0); refine (H1.out _).mono ?_; rintro e w7 ⟨rfl, rfl⟩) | (go_at_call 46; refine (H2.out _).mono ?_; rintro e w7 ⟨rfl, rfl⟩) | (go_at_call_of 79 (Value.int .i64 1); refine (H3.out _).mono ?_; rintro e w7 ⟨rfl, rfl⟩) | (go_at_call 140; refine (H4.out _).mono ?_; rintro e w7 ⟨rfl, rfl⟩))
              refine (H5.out _ hb).mono ?_
              rintro e w8 ⟨rfl, hb8⟩
              have hb := below_onR hb hb8
              go_wp2_with fail
              go_ret
              exact ⟨by rw [HR.out]; cases B <;> rfl, hb⟩
            · have d10 : decide ((s.cv.length : Int) ≤ 10) = false := decide_eq_false (by omega)
              have HR : Hid (sgnB L s = false) := Lib.hid (by rw [HV.out, g0, g1, g2, g3, g4, decide_eq_false h10]; simp)
              clear HV H5 g0 g1 g2 g3 g4
              go_enter Tryz.func111, Tryz.ntmps111
              go_wp2_with fail
              obtain ⟨wB, hwB⟩ : ∃ wB, (w.alloc (.cells #[.int .i64 L, .slice a js.length ca] 24)).alloc (.cells #[.int .i64 s.n, .int .i64 s.k, .int .i64 s.v, .int .i64 s.c, .int .i64 s.d, .int .i64 s.rk, .int .i64 s.up, .int .i64 s.dn, .slice ad s.cv.length cp] 34) = wB := ⟨_, rfl⟩
              have hb : Below w.heap.size w wB := by rw [← hwB]; exact ((Below.refl _ _).alloc (Nat.le_refl _) _).alloc (by simp) _
              have p0 : wB.cell? ⟨w.heap.size, 0, none⟩ = some (.int .i64 L) := by rw [← hwB]; simp [go_sem]
              have q0 : wB.cell? ⟨w.heap.size + 1, 0, none⟩ = some (.int .i64 s.n) := by rw [← hwB]; simp [go_sem]
              have q1 : wB.cell? ⟨w.heap.size + 1, 1, none⟩ = some (.int .i64 s.k) := by rw [← hwB]; simp [go_sem]
              have q2 : wB.cell? ⟨w.heap.size + 1, 2, none⟩ = some (.int .i64 s.v) := by rw [← hwB]; simp [go_sem]
              have q3 : wB.cell? ⟨w.heap.size + 1, 3, none⟩ = some (.int .i64 s.c) := by rw [← hwB]; simp [go_sem]
              have q4 : wB.cell? ⟨w.heap.size + 1, 4, none⟩ = some (.int .i64 s.d) := by rw [← hwB]; simp [go_sem]
              have q5 : wB.cell? ⟨w.heap.size + 1, 5, none⟩ = some (.int .i64 s.rk) := by rw [← hwB]; simp [go_sem]
              have q6 : wB.cell? ⟨w.heap.size + 1, 6, none⟩ = some (.int .i64 s.up) := by rw [← hwB]; simp [go_sem]
              have q7 : wB.cell? ⟨w.heap.size + 1, 7, none⟩ = some (.int .i64 s.dn) := by rw [← hwB]; simp [go_sem]
              have q8 : wB.cell? ⟨w.heap.size + 1, 8, none⟩ = some (.slice ad s.cv.length cp) := by rw [← hwB]; simp [go_sem]
              rw [hwB]
              clear hwB
              go_wp2_with (first | (go_at_call 139; refine (H0.out _).mono ?_; rintro e w7 ⟨rfl, rfl⟩) | (go_at_call_of 79 (Value.int .i64 0); refine (H1.out _).mono ?_; rintro e w7 ⟨rfl, rfl⟩) | (go_at_call 46; refine (H2.out _).mono ?_; rintro e w7 ⟨rfl, rfl⟩) | (go_at_call_of 79 (Value.int .i64 1); refine (H3.out _).mono ?_; rintro e w7 ⟨rfl, rfl⟩) | (go_at_call 140; refine (H4.out _).mono ?_; rintro e w7 ⟨rfl, rfl⟩))
              go_ret
              exact ⟨by rw [HR.out]; rfl, hb⟩
end Go.Proofs.YtiagflackfkmnaaGreat
