/-
  Crowded of package road. By an AI agent.
-/
import Derived.Test.YtdiabpcpcilclaaRoadSg
import Derived.Test.YtdiabpcpcilclaaRoadI
import Derived.Deep.RegionHeld3
import Derived.Deep.DeepCutAuto
import Derived.BigQuiet
namespace Go.Proofs.Ytdiabpcpcilclaa
set_option linter.unusedVariables false
set_option linter.unusedSimpArgs false
open Go.RowKit

theorem arrInfo : (Try.prog.info? 82).map (fun i => (i.zero, i.size, i.bytes)) = some (some (.agg #[.int .i64 0, .int .i64 0]), 2, 16) := by kernel_rfl
theorem gcellC {W w1 : World} {row : Option Nat} (hg : W.grownBy w1 row) : (∀ b o, b < W.heap.size → some b ≠ row → w1.cell? ⟨b, o, none⟩ = W.cell? ⟨b, o, none⟩) :=
  fun b o h hn => hg.cell_far ⟨b, o, none⟩ h hn
/-- Do two posts stand too near each other? -/
def nearB (p q : Chg) (g : Int) : Bool := (p.2.2.1 == q.2.2.1) && (p.2.2.2 == q.2.2.2) && decide (max p.2.1 q.2.1 - min p.2.1 q.2.1 < g)
/-- The pairs of post i with those before m behind it. -/
def pinK (l : List Chg) (g : Int) (i : Nat) : Nat → List Spn
  | 0 => []
  | m + 1 => pinK l g i m ++ (if i < m ∧ nearB (gc l i) (gc l m) g = true then [((i : Int), (m : Int))] else [])
/-- The pairs of the first posts. -/
def poutK (l : List Chg) (g : Int) : Nat → List Spn
  | 0 => []
  | i + 1 => poutK l g i ++ pinK l g i l.length
theorem pin_none (l : List Chg) (g : Int) (i : Nat) : ∀ m, m ≤ i + 1 → pinK l g i m = []
  | 0, _ => rfl
  | m + 1, h => by rw [pinK, pin_none l g i m (by omega), if_neg (by omega)]; rfl
theorem pin_len (l : List Chg) (g : Int) (i : Nat) : ∀ m, (pinK l g i m).length ≤ m
  | 0 => Nat.le_refl _
  | m + 1 => by have := pin_len l g i m; rw [pinK, List.length_append]; split <;> simp <;> omega
theorem pout_len (l : List Chg) (g : Int) : ∀ i, (poutK l g i).length ≤ i * l.length
  | 0 => by simp [poutK]
  | i + 1 => by have := pout_len l g i; have := pin_len l g i l.length; rw [poutK, List.length_append, Nat.succ_mul]; omega
theorem pin_64 (l : List Chg) (g : Int) (i : Nat) (hi : i < 1000) : ∀ m, m ≤ 1000 → ∀ p ∈ pinK l g i m, I64 p.1 ∧ I64 p.2
  | 0, _, p, hp => by cases hp
  | m + 1, hm, p, hp => by
    rw [pinK] at hp
    rcases List.mem_append.1 hp with hp | hp
    · exact pin_64 l g i hi m (by omega) p hp
    · split at hp
      · simp at hp; subst hp; unfold I64; simp only []; omega
      · cases hp
theorem pout_64 (l : List Chg) (g : Int) (hl : l.length ≤ 1000) : ∀ i, i ≤ 1000 → ∀ p ∈ poutK l g i, I64 p.1 ∧ I64 p.2
  | 0, _, p, hp => by cases hp
  | i + 1, hi, p, hp => by
    rw [poutK] at hp
    rcases List.mem_append.1 hp with hp | hp
    · exact pout_64 l g hl i (by omega) p hp
    · exact pin_64 l g i (by omega) l.length hl p hp
def postsB (l : List Chg) : Bool := !(anyK (fun j => !(postB (gc l j).2.1 (gc l j).2.2.1 (gc l j).2.2.2)) l.length)
def crB (l : List Chg) (g : Int) : Bool := postsB l && btw g 0 10000
def crE (l : List Chg) (g : Int) : Int := if crB l g = true then 0 else 2
def crL (l : List Chg) (g : Int) : List Spn := if crB l g = true then poutK l g l.length else []
theorem pairs_ownA {w : World} {base c : Nat} {a : Option Addr} {s : List (Int × Int)} (h : w.ownsRow base 82 2 (.slice a s.length c) s.length (clS s)) (hn : s.length ≤ 9223372036854775807) (hf : ∀ j, j < s.length → I64 (gp s j).1 ∧ I64 (gp s j).2) : PairsS w a s ∧ s.length ≤ c := by
  rcases h.2 with ⟨h1, h2⟩ | ⟨g2, c2, cur, h1, _, _, h4, _⟩
  · exact ⟨⟨hn, hf, 0, 0, (fun hne => absurd (List.eq_nil_of_length_eq_zero h2) hne), fun i hi => by omega⟩, by omega⟩
  · obtain ⟨rfl, rfl⟩ : a = some ⟨g2, 0, none⟩ ∧ c = c2 := by simpa using h1
    refine ⟨⟨hn, hf, g2, 0, fun _ => rfl, fun i hi => ⟨?_, ?_⟩⟩, h4⟩
    · rw [Nat.zero_add, World.ownsRow.cellAt h (i * 2) (by omega)]; exact clS_0 s i hi
    · rw [Nat.zero_add, World.ownsRow.cellAt h (i * 2 + 1) (by omega)]; exact clS_1 s i hi
theorem wrongP_any (n c d s : Int) (w : World) :
    Calls Try.prog 45 (#[.agg #[.int .i64 n, .int .i64 c, .int .i64 d, .int .i64 s]] ++ #[]) w fun e w' => e = .returned (.bool (!(postB c d s))) ∧ Below w.heap.size w w' := by
  have HS := Lib.hid (fun W => postValid_any n c d s W)
  generalize postB c d s = b at *
  go_enter Try.func45, Try.ntmps45
  go_wp2_with fail
  refine (HS.out _).mono ?_
  rintro e w1 ⟨rfl, hb1⟩
  go_wp2_with fail
  go_ret
  exact ⟨rfl, by first | exact box_below hb1 | exact hb1⟩
set_option maxRecDepth 100000 in
set_option maxHeartbeats 1000000 in
theorem idxQ_any (aa : Option Addr) (l : List (Chg)) (ca : Nat) (lb : Array Value) (p : Nat → Bool) (w : World) (hA : QuadS w aa l)
    (hp : ∀ j W, j < l.length → Below w.heap.size w W → Calls Try.prog 45 (#[.agg #[.int .i64 (gc l j).1, .int .i64 (gc l j).2.1, .int .i64 (gc l j).2.2.1, .int .i64 (gc l j).2.2.2]] ++ lb) W fun e w' => e = .returned (.bool (p j)) ∧ Below W.heap.size W w') :
    Calls Try.prog 69 #[.slice aa l.length ca, .func (.func 45) #[] lb] w fun e w' => e = .returned (.int .i64 (idxK p l.length)) ∧ Below w.heap.size w w' := by
  obtain ⟨hlen, -, blk, off, hadr, hc⟩ := hA
  have HP := Lib.hid hp
  have HC := Lib.hid hc
  have HH : Hid (∀ k, k < l.length → p k = true → (∀ j, j < k → p j = false) → idxK p l.length = k) := Lib.hid fun k hk h hb => idxK_hit h hb _ hk
  have HM : Hid ((∀ j, j < l.length → p j = false) → idxK p l.length = -1) := Lib.hid fun h => idxK_miss _ h
  have HL : Hid (0 < l.length → aa = some ⟨blk, off, none⟩) := Lib.hid fun h => hadr (pos_ne (n := 0) h)
  generalize idxK p l.length = R at *
  clear hp hc hadr
  go_enter Try.func69, Try.ntmps69
  go_wp2_with fail
  go_loopw [8] (fun i wr => ∃ k : Nat, k ≤ l.length ∧ i = .int .i64 k ∧ Below w.heap.size w wr ∧ Hid (∀ j, j < k → p j = false)) (fun i _ => l.length - (intOf i).toNat)
  case atStart => exact ⟨0, Nat.zero_le _, rfl, Below.refl _ _, Lib.hid fun j hj => absurd hj (Nat.not_lt_zero _)⟩
  case round =>
    obtain ⟨k, hk, rfl, hb, HA⟩ := hrel
    by_cases hlt : k < l.length
    · obtain rfl := HL.out (by omega)
      obtain ⟨c0, c1, c2, c3⟩ := HC.out k hlt
      have c0 := cell_below c0 hb
      have c1 := cell_below c1 hb
      have c2 := cell_below c2 hb
      have c3 := cell_below c3 hb
      have HK := Lib.hid (fun W => HP.out k W hlt)
      have HHk := Lib.hid (HH.out k hlt)
      have HN : Hid (p k = false → ∀ j, j < k + 1 → p j = false) := Lib.hid fun h j hj => by
        by_cases e : j = k
        · subst e; exact h
        · exact HA.out j (by omega)
      clear HP HC HM HL HH
      generalize (gc l k).1 = x0 at *
      generalize (gc l k).2.1 = x1 at *
      generalize (gc l k).2.2.1 = x2 at *
      generalize (gc l k).2.2.2 = x3 at *
      cases hpk : p k with
      | true =>
        have HR := Lib.hid (HHk.out hpk HA.out)
        rw [hpk] at HK
        clear hpk HHk HN
        go_wp2_with fail
        refine (HK.out _ hb).mono ?_
        rintro e w1 ⟨rfl, hb1⟩
        go_wp2_with fail
        go_ret
        rw [HR.out]
        exact ⟨rfl, hb.trans (hb1.mono hb.size)⟩
      | false =>
        have HR := Lib.hid (HN.out hpk)
        rw [hpk] at HK
        clear hpk HHk HN
        go_wp2_with fail
        refine (HK.out _ hb).mono ?_
        rintro e w1 ⟨rfl, hb1⟩
        go_wp2_with fail
        go_roundw
        case rel => exact ⟨k + 1, by omega, by go_num, hb.trans (hb1.mono hb.size), HR⟩
        case measure => simp [intOf]; omega
    · obtain rfl : k = l.length := by omega
      have HR := Lib.hid (HM.out HA.out)
      go_wp2_with fail
      go_ret
      rw [HR.out]
      exact ⟨rfl, hb⟩

set_option maxRecDepth 100000 in
theorem containsQ_any (aa : Option Addr) (l : List (Chg)) (ca : Nat) (lb : Array Value) (p : Nat → Bool) (w : World) (hA : QuadS w aa l)
    (hp : ∀ j W, j < l.length → Below w.heap.size w W → Calls Try.prog 45 (#[.agg #[.int .i64 (gc l j).1, .int .i64 (gc l j).2.1, .int .i64 (gc l j).2.2.1, .int .i64 (gc l j).2.2.2]] ++ lb) W fun e w' => e = .returned (.bool (p j)) ∧ Below W.heap.size W w') :
    Calls Try.prog 47 #[.slice aa l.length ca, .func (.func 45) #[] lb] w fun e w' => e = .returned (.bool (anyK p l.length)) ∧ Below w.heap.size w w' := by
  have H := Lib.hid (idxQ_any aa l ca lb p w hA hp)
  have hq := Lib.hid (idxK_any p l.length)
  clear hp hA
  generalize idxK p l.length = R at *
  generalize anyK p l.length = B at *
  have hq := hq.out
  subst hq
  go_enter Try.func47, Try.ntmps47
  go_wp2_with fail
  refine H.out.mono ?_
  rintro e w1 ⟨rfl, hb1⟩
  go_wp2_with fail
  all_goals
    go_ret
    exact ⟨by simp_all, hb1⟩

set_option maxRecDepth 100000 in
set_option maxHeartbeats 4000000 in
theorem Crowded_any (a : Option Addr) (l : List Chg) (ca : Nat) (g : Int) (w : World) (hQ : QuadS w a l) (hl : l.length ≤ 60) :
    Calls Try.prog 23 #[.slice a l.length ca, .int .i64 g] w (LstE w (crL l g) (crE l g)) := by
  have HC := Lib.hid (containsQ_any a l ca #[] (fun j => !(postB (gc l j).2.1 (gc l j).2.2.1 (gc l j).2.2.2)) w hQ (fun j W _ _ => wrongP_any _ _ _ _ W))
  have b2 : decide (200 < (l.length : Int)) = false := decide_eq_false (by omega)
  have HE0 : Hid (∀ W, Below w.heap.size w W → LstE w [] 2 (.returned (.tuple #[.slice none 0 0, .int .i64 2])) W) := Lib.hid fun W h2 => ⟨none, 0, rfl, pairs_nil W, h2, Nat.le_refl _⟩
  cases hp : postsB l with
  | false =>
    rw [show crE l g = 2 by unfold crE crB; rw [hp]; rfl, show crL l g = [] by unfold crL crB; rw [hp]; rfl]
    have ha : anyK (fun j => !(postB (gc l j).2.1 (gc l j).2.2.1 (gc l j).2.2.2)) l.length = true := by unfold postsB at hp; simpa using hp
    rw [ha] at HC
    clear hp ha hQ
    go_enter Try.func23, Try.ntmps23
    go_wp2_with fail
    refine HC.out.mono ?_
    rintro e w1 ⟨rfl, hb1⟩
    go_wp2_with fail
    go_ret2
    exact HE0.out _ hb1
  | true =>
    have ha : anyK (fun j => !(postB (gc l j).2.1 (gc l j).2.2.1 (gc l j).2.2.2)) l.length = false := by unfold postsB at hp; simpa using hp
    rw [ha] at HC
    have HW := Lib.hid (fun W b (h : W.cell? ⟨b, 0, none⟩ = some (.int .i64 g)) => within1_any 0 10000 g b W h)
    cases hg : btw g 0 10000 with
    | false =>
      rw [hg] at HW
      rw [show crE l g = 2 by unfold crE crB; rw [hp, hg]; rfl, show crL l g = [] by unfold crL crB; rw [hp, hg]; rfl]
      clear hp ha hQ hg
      go_enter Try.func23, Try.ntmps23
      go_wp2_with fail
      refine HC.out.mono ?_
      rintro e w1 ⟨rfl, hb1⟩
      go_wp2_with fail
      refine (HW.out _ _ (by simp [go_sem])).mono ?_
      rintro e w2 ⟨rfl, hb2⟩
      have hb := below_on hb1 (box_below hb2)
      go_wp2_with fail
      go_ret2
      exact HE0.out _ hb
    | true =>
      rw [hg] at HW
      rw [show crE l g = 0 by unfold crE crB; rw [hp, hg]; rfl, show crL l g = poutK l g l.length by unfold crL crB; rw [hp, hg]; rfl]
      have hpl : ∀ i, i ≤ l.length → (poutK l g i).length ≤ 3600 := fun i hi => by
        have := pout_len l g i
        have h2 : i * l.length ≤ 60 * 60 := Nat.mul_le_mul (by omega) hl
        omega
      have HPL := Lib.hid hpl
      have HEnd : Hid (∀ W b c, W.ownsRow w.heap.size 82 2 (.slice b (poutK l g l.length).length c) (poutK l g l.length).length (clS (poutK l g l.length)) → Below w.heap.size w W → LstE w (poutK l g l.length) 0 (.returned (.tuple #[.slice b (poutK l g l.length).length c, .int .i64 0])) W) := Lib.hid fun W b c h hb => by
        have h1 := hpl l.length (Nat.le_refl _)
        obtain ⟨h2, h3⟩ := pairs_ownA h (by omega) fun j hj => pout_64 l g (by omega) l.length (by omega) _ (gp_mem hj)
        exact ⟨b, c, rfl, h2, hb, h3⟩
      obtain ⟨hlen, hf, blk, off, hadr, hcell⟩ := hQ
      have HCl := Lib.hid hcell
      have HF := Lib.hid hf
      have HL : Hid (0 < l.length → a = some ⟨blk, off, none⟩) := Lib.hid fun h => hadr (pos_ne (n := 0) h)
      have HPo : Hid (∀ i, poutK l g (i + 1) = poutK l g i ++ pinK l g i l.length) := Lib.hid fun i => rfl
      have HPB : Hid (∀ k, k < l.length → 0 ≤ (gc l k).2.1 ∧ (gc l k).2.1 ≤ 10000000) := Lib.hid fun k hk => by
        have h := (anyK_iff _).1 ha k hk
        have h : postB (gc l k).2.1 (gc l k).2.2.1 (gc l k).2.2.2 = true := by simpa using h
        unfold postB at h
        rw [Bool.and_eq_true, Bool.and_eq_true, btw_iff] at h
        exact h.1.1
      obtain ⟨n0, hi, hz0, hz1, hz2⟩ := info_parts arrInfo
      clear hp ha hg hcell hadr hf hpl
      go_enter Try.func23, Try.ntmps23
      go_wp2_with fail
      refine HC.out.mono ?_
      rintro e w1 ⟨rfl, hb1⟩
      go_wp2_with fail
      refine (HW.out _ _ (by simp [go_sem])).mono ?_
      rintro e w2 ⟨rfl, hb2⟩
      have hb0 := below_on hb1 (box_below hb2)
      clear hb1 hb2 HC HW HE0
      go_wp2_with fail
      go_loopw [7, 28] (fun v i wr => ∃ m : Nat, m ≤ l.length ∧ i = .int .i64 m ∧ (∃ a c, v = .slice a (poutK l g m).length c) ∧ Hid (wr.ownsRow w.heap.size 82 2 v (poutK l g m).length (clS (poutK l g m))) ∧ Below w.heap.size w wr) (fun _ i _ => l.length - (intOf i).toNat)
      case atStart => exact ⟨0, Nat.zero_le _, rfl, ⟨none, 0, rfl⟩, Lib.hid ⟨rfl, .inl ⟨rfl, rfl⟩⟩, hb0⟩
      case round =>
        obtain ⟨i, hik, rfl, ⟨ao, co, rfl⟩, HRow, hbu⟩ := hrel
        by_cases hlt : i < l.length
        · obtain rfl := HL.out (by omega)
          obtain ⟨d0, d1, d2, d3⟩ := HCl.out i hlt
          have d0 := cell_below d0 hbu
          have d1 := cell_below d1 hbu
          have d2 := cell_below d2 hbu
          have d3 := cell_below d3 hbu
          have hpi := HPL.out i hik
          have HPi := Lib.hid (HPo.out i)
          have HNr : Hid (∀ k, nearB (gc l i) (gc l k) g = (((gc l i).2.2.1 == (gc l k).2.2.1) && ((gc l i).2.2.2 == (gc l k).2.2.2) && decide (max (gc l i).2.1 (gc l k).2.1 - min (gc l i).2.1 (gc l k).2.1 < g))) := Lib.hid fun k => rfl
          obtain ⟨px0, px1⟩ := HPB.out i hlt
          have hmeasO : l.length - (i + 1) < l.length - i := by omega
          have hi1 : i + 1 ≤ l.length := by omega
          have hil : (i : Int) < (l.length : Int) := by omega
          obtain ⟨S0, hS0⟩ : ∃ S0, poutK l g i = S0 := ⟨_, rfl⟩
          rw [hS0] at HRow hpi HPi ⊢
          obtain ⟨wu, rfl⟩ : ∃ wu : World, wu = wr := ⟨_, rfl⟩
          obtain ⟨P0, hP0⟩ : ∃ P0, (gc l i).1 = P0 := ⟨_, rfl⟩
          obtain ⟨P1, hP1⟩ : ∃ P1, (gc l i).2.1 = P1 := ⟨_, rfl⟩
          obtain ⟨P2, hP2⟩ : ∃ P2, (gc l i).2.2.1 = P2 := ⟨_, rfl⟩
          obtain ⟨P3, hP3⟩ : ∃ P3, (gc l i).2.2.2 = P3 := ⟨_, rfl⟩
          rw [hP0] at d0
          rw [hP1] at d1 px0 px1
          rw [hP2] at d2
          rw [hP3] at d3
          simp only [hP1, hP2, hP3] at HNr
          clear hS0 hP0 hP1 hP2 hP3 HEnd HPL HPo
          go_upto_region 8 with (fail)
          obtain ⟨B, hB⟩ : ∃ B, wu.heap.size = B := ⟨_, rfl⟩
          obtain ⟨wx, hwx⟩ : ∃ wx, wu.alloc (.cells #[.int .i64 P0, .int .i64 P1, .int .i64 P2, .int .i64 P3] 78) = wx := ⟨_, rfl⟩
          have hI0 : Hid (pinK l g i (i + 1) = []) := Lib.hid (pin_none l g i (i + 1) (Nat.le_refl _))
          have hbx : Below w.heap.size w wx := by rw [← hwx]; exact hbu.alloc hbu.size _
          have hBx : B < wx.heap.size := by rw [← hwx, ← hB]; simp
          have y1 : wx.cell? ⟨B, 1, none⟩ = some (.int .i64 P1) := by rw [← hwx, ← hB]; simp [go_sem]
          have y2 : wx.cell? ⟨B, 2, none⟩ = some (.int .i64 P2) := by rw [← hwx, ← hB]; simp [go_sem]
          have y3 : wx.cell? ⟨B, 3, none⟩ = some (.int .i64 P3) := by rw [← hwx, ← hB]; simp [go_sem]
          have hne0 : some B ≠ (Value.slice ao S0.length co).ownBlock := fun h => by
            have := (HRow.out.lt _ h.symm).2
            omega
          have HRx : Hid (wx.ownsRow w.heap.size 82 2 (.slice ao S0.length co) S0.length (clS S0)) := Lib.hid (by rw [← hwx]; exact HRow.out.alloc _)
          rw [hwx, hB]
          have Y1 := Lib.hid y1
          have Y2 := Lib.hid y2
          have Y3 := Lib.hid y3
          clear hwx hB d0 d1 d2 d3 y1 y2 y3 HRow hbu
          go_wp2_with fail
          go_loopw [7, 10] (fun v j wr => ∃ k : Nat, i + 1 ≤ k ∧ k ≤ l.length ∧ j = .int .i64 k ∧ (∃ a c, v = .slice a (S0 ++ pinK l g i k).length c ∧ some B ≠ (Value.slice a (S0 ++ pinK l g i k).length c).ownBlock ∧ Hid (wr.ownsRow w.heap.size 82 2 (.slice a (S0 ++ pinK l g i k).length c) (S0 ++ pinK l g i k).length (clS (S0 ++ pinK l g i k)))) ∧ wr.cell? ⟨B, 1, none⟩ = some (.int .i64 P1) ∧ wr.cell? ⟨B, 2, none⟩ = some (.int .i64 P2) ∧ wr.cell? ⟨B, 3, none⟩ = some (.int .i64 P3) ∧ Below w.heap.size w wr ∧ B < wr.heap.size) (fun _ j _ => l.length - (intOf j).toNat)
          case atStart => exact ⟨i + 1, Nat.le_refl _, hi1, by go_num, ⟨ao, co, by rw [hI0.out, List.append_nil], by rw [hI0.out, List.append_nil]; exact hne0, by rw [hI0.out, List.append_nil]; exact HRx⟩, Y1.out, Y2.out, Y3.out, hbx, hBx⟩
          case round =>
            obtain ⟨k, hk0, hk1', rfl, ⟨av, cv, rfl, hne, HRow⟩, x1, x2, x3, hbr, hBr⟩ := hrel
            by_cases hlk : k < l.length
            · obtain ⟨d0, d1, d2, d3⟩ := HCl.out k hlk
              have d0 := cell_below d0 hbr
              have d1 := cell_below d1 hbr
              have d2 := cell_below d2 hbr
              have d3 := cell_below d3 hbr
              obtain ⟨qx0, qx1⟩ := HPB.out k hlk
              have HNb := Lib.hid (HNr.out k)
              have hk1 : k + 1 ≤ l.length := by omega
              have hkl : (k : Int) < (l.length : Int) := by omega
              have hmeas : l.length - (k + 1) < l.length - k := by omega
              have hpn := pin_len l g i k
              have hpq : (S0 ++ pinK l g i k).length ≤ 3700 := by rw [List.length_append]; omega
              have HPn : Hid (pinK l g i (k + 1) = pinK l g i k ++ (if i < k ∧ nearB (gc l i) (gc l k) g = true then [((i : Int), (k : Int))] else [])) := Lib.hid rfl
              clear HCl HF HL HPB HNr HPi Y1 Y2 Y3 HRx hI0 hbx hBx hne0 hpn
              generalize (gc l k).1 = e0 at *
              generalize (gc l k).2.1 = e1 at *
              generalize (gc l k).2.2.1 = e2 at *
              generalize (gc l k).2.2.2 = e3 at *
              cases h1 : (P2 == e2) with
              | false =>
                have HNb : Hid (nearB (gc l i) (gc l k) g = false) := Lib.hid (by rw [HNb.out, h1]; rfl)
                clear HPn
                have hin : Hid (pinK l g i (k + 1) = pinK l g i k) := Lib.hid (by rw [pinK, if_neg (by rw [HNb.out]; simp), List.append_nil])
                have hqx : Below wr.heap.size wr (wr.alloc (.cells #[.int .i64 e0, .int .i64 e1, .int .i64 e2, .int .i64 e3] 78)) := (Below.refl _ _).alloc (Nat.le_refl _) _
                have HRowS := Lib.hid (HRow.out.alloc (.cells #[.int .i64 e0, .int .i64 e1, .int .i64 e2, .int .i64 e3] 78))
                have hbS : Below w.heap.size w (wr.alloc (.cells #[.int .i64 e0, .int .i64 e1, .int .i64 e2, .int .i64 e3] 78)) := hbr.alloc hbr.size _
                have X1 := Lib.hid (cell_below x1 hqx)
                have X2 := Lib.hid (cell_below x2 hqx)
                have X3 := Lib.hid (cell_below x3 hqx)
                have hBS := Nat.lt_of_lt_of_le hBr hqx.size
                clear HNb HRow hqx
                go_wp2_with fail
                go_roundw
                case rel => exact ⟨k + 1, by omega, hk1, by go_num, ⟨av, cv, by rw [hin.out], by rw [hin.out]; exact hne, by rw [hin.out]; exact HRowS⟩, X1.out, X2.out, X3.out, hbS, hBS⟩
                case measure => first | (simp [intOf]; exact hmeas) | simpa [intOf] using hmeas

              | true =>
                cases h2 : (P3 == e3) with
                | false =>
                  have HNb : Hid (nearB (gc l i) (gc l k) g = false) := Lib.hid (by rw [HNb.out, h1, h2]; rfl)
                  clear HPn
                  have hin : Hid (pinK l g i (k + 1) = pinK l g i k) := Lib.hid (by rw [pinK, if_neg (by rw [HNb.out]; simp), List.append_nil])
                  have hqx : Below wr.heap.size wr (wr.alloc (.cells #[.int .i64 e0, .int .i64 e1, .int .i64 e2, .int .i64 e3] 78)) := (Below.refl _ _).alloc (Nat.le_refl _) _
                  have HRowS := Lib.hid (HRow.out.alloc (.cells #[.int .i64 e0, .int .i64 e1, .int .i64 e2, .int .i64 e3] 78))
                  have hbS : Below w.heap.size w (wr.alloc (.cells #[.int .i64 e0, .int .i64 e1, .int .i64 e2, .int .i64 e3] 78)) := hbr.alloc hbr.size _
                  have X1 := Lib.hid (cell_below x1 hqx)
                  have X2 := Lib.hid (cell_below x2 hqx)
                  have X3 := Lib.hid (cell_below x3 hqx)
                  have hBS := Nat.lt_of_lt_of_le hBr hqx.size
                  clear HNb HRow hqx
                  go_wp2_with fail
                  go_roundw
                  case rel => exact ⟨k + 1, by omega, hk1, by go_num, ⟨av, cv, by rw [hin.out], by rw [hin.out]; exact hne, by rw [hin.out]; exact HRowS⟩, X1.out, X2.out, X3.out, hbS, hBS⟩
                  case measure => first | (simp [intOf]; exact hmeas) | simpa [intOf] using hmeas

                | true =>
                  obtain ⟨mx, hmx⟩ : ∃ mx, max P1 e1 = mx := ⟨_, rfl⟩
                  obtain ⟨mn, hmn⟩ : ∃ mn, min P1 e1 = mn := ⟨_, rfl⟩
                  have wd : IntKind.i64.wrap (mx - mn) = mx - mn := IntWalk.i64_in _ (by omega)
                  rw [hmx, hmn, h1, h2, Bool.true_and, Bool.true_and] at HNb
                  by_cases h3 : mx - mn < g
                  · have h3' : decide (mx - mn < g) = true := decide_eq_true h3
                    have hin : Hid ((S0 ++ pinK l g i (k + 1)).length = (S0 ++ pinK l g i k).length + 1 ∧ clS (S0 ++ pinK l g i (k + 1)) = clS (S0 ++ pinK l g i k) ++ [.int .i64 (i : Int), .int .i64 (k : Int)]) := Lib.hid (by
                      rw [HPn.out, if_pos ⟨by omega, by rw [HNb.out]; exact h3'⟩, ← List.append_assoc, clS_app]
                      exact ⟨by simp; omega, rfl⟩)
                    clear HNb HPn
                    go_upto_region 13 with (fail)
                    obtain ⟨wq, hwq⟩ : ∃ wq, wr.alloc (.cells #[.int .i64 e0, .int .i64 e1, .int .i64 e2, .int .i64 e3] 78) = wq := ⟨_, rfl⟩
                    have hbq : Below w.heap.size w wq := by rw [← hwq]; exact hbr.alloc hbr.size _
                    have hqs : wr.heap.size < wq.heap.size := by rw [← hwq]; simp
                    have hqx : Below wr.heap.size wr wq := by rw [← hwq]; exact (Below.refl _ _).alloc (Nat.le_refl _) _
                    have x1' := cell_below x1 hqx
                    have x2' := cell_below x2 hqx
                    have x3' := cell_below x3 hqx
                    have HRow0 := HRow.out.alloc (.cells #[.int .i64 e0, .int .i64 e1, .int .i64 e2, .int .i64 e3] 78)
                    rw [hwq] at HRow0 ⊢
                    have HRow := Lib.hid HRow0
                    clear HRow0 hwq
                    clear d0 d1 d2 d3 x1 x2 x3 h1 h2 h3 h3' hmx hmn wd
                    generalize S0 ++ pinK l g i k = S1 at *
                    have hown := Lib.hid (HRow.out.alloc (.cells #[.int .i64 (i : Int), .int .i64 (k : Int)] 82))
                    have hbs : w.heap.size ≤ wq.heap.size := hbq.size
                    have hnw6 := Lib.hid (World.news_of_block (w := wq.alloc (.cells #[.int .i64 (i : Int), .int .i64 (k : Int)] 82)) (B := wq.heap.size) (cs := #[.int .i64 (i : Int), .int .i64 (k : Int)]) (t := 82) (fr := (0, 0)) (heap_alloc_new _ _))
                    go_wp2_with (first | (at_builtin; go_loud (refine wpList_append_lies _ rfl _ _ 46 rfl w.heap.size 82 n0 _ 2 16 Try.underlying46 hi hz0 hz1 hz2 rfl (by decide) (.slice av S1.length cv) (S1.length) _ (by rfl) hown.out ⟨wq.heap.size, 0, none⟩ 1 1 [.int .i64 (i : Int), .int .i64 (k : Int)] (by rfl) (by rfl) (by exact hnw6.out) (by simp [Value.oneCell']) (by decide) (by unfold maxLen; omega) (by omega) (by first | (simp; omega) | simp | omega) _ rfl ?_)))
                    intro g6 c6 w6 hown6 hgrow6 hat6 hlt6
                    have hb6 : Below w.heap.size w w6 := ((hbq.alloc hbs _).grown hgrow6 (by first | (simp; omega) | simp | omega) (fun z hz => owns_block hown.out hz))

                    have hg2 : some B ≠ some g6 := fun h => by
                      rcases hat6 with h' | h'
                      · exact hne (h.trans h'.symm)
                      · have : B = g6 := by simpa using h
                        have h'' : wq.heap.size ≤ g6 := by first | omega | (rw [h']; simp)
                        omega
                    have hqq : B < (wq.alloc (.cells #[.int .i64 (i : Int), .int .i64 (k : Int)] 82)).heap.size := by simp; omega
                    have z1 : w6.cell? ⟨B, 1, none⟩ = some (.int .i64 P1) := (gcellC hgrow6 B 1 hqq hne).trans ((World.cell?_alloc_old _ _ ⟨B, 1, none⟩ (Nat.ne_of_lt (show B < wq.heap.size by omega))).trans x1')
                    have z2 : w6.cell? ⟨B, 2, none⟩ = some (.int .i64 P2) := (gcellC hgrow6 B 2 hqq hne).trans ((World.cell?_alloc_old _ _ ⟨B, 2, none⟩ (Nat.ne_of_lt (show B < wq.heap.size by omega))).trans x2')
                    have z3 : w6.cell? ⟨B, 3, none⟩ = some (.int .i64 P3) := (gcellC hgrow6 B 3 hqq hne).trans ((World.cell?_alloc_old _ _ ⟨B, 3, none⟩ (Nat.ne_of_lt (show B < wq.heap.size by omega))).trans x3')
                    have hB6 : B < w6.heap.size := by
                      have := hgrow6.size
                      simp at this
                      omega
                    have HEnd6 : Hid (∃ a c, Value.slice (some ⟨g6, 0, none⟩) (S1.length + 1) c6 = .slice a (S0 ++ pinK l g i (k + 1)).length c ∧ some B ≠ (Value.slice a (S0 ++ pinK l g i (k + 1)).length c).ownBlock ∧ Hid (w6.ownsRow w.heap.size 82 2 (.slice a (S0 ++ pinK l g i (k + 1)).length c) (S0 ++ pinK l g i (k + 1)).length (clS (S0 ++ pinK l g i (k + 1))))) := Lib.hid ⟨some ⟨g6, 0, none⟩, c6, by rw [hin.out.1], by rw [hin.out.1]; exact hg2, by rw [hin.out.1, hin.out.2]; exact Lib.hid hown6⟩
                    have Z1 := Lib.hid z1
                    have Z2 := Lib.hid z2
                    have Z3 := Lib.hid z3
                    clear z1 z2 z3 x1' x2' x3' hown6 hgrow6 hat6 hlt6 hown hnw6 HRow hqq hg2 hne hqx
                    go_wp2_with fail
                    go_roundw
                    case rel => exact ⟨k + 1, by omega, hk1, by go_num, HEnd6.out, Z1.out, Z2.out, Z3.out, hb6, hB6⟩
                    case measure => first | (simp [intOf]; exact hmeas) | simpa [intOf] using hmeas
                  · have h3' : decide (mx - mn < g) = false := decide_eq_false h3
                    have HNb : Hid (nearB (gc l i) (gc l k) g = false) := Lib.hid (by rw [HNb.out]; exact h3')
                    clear HPn
                    have hin : Hid (pinK l g i (k + 1) = pinK l g i k) := Lib.hid (by rw [pinK, if_neg (by rw [HNb.out]; simp), List.append_nil])
                    have hqx : Below wr.heap.size wr (wr.alloc (.cells #[.int .i64 e0, .int .i64 e1, .int .i64 e2, .int .i64 e3] 78)) := (Below.refl _ _).alloc (Nat.le_refl _) _
                    have HRowS := Lib.hid (HRow.out.alloc (.cells #[.int .i64 e0, .int .i64 e1, .int .i64 e2, .int .i64 e3] 78))
                    have hbS : Below w.heap.size w (wr.alloc (.cells #[.int .i64 e0, .int .i64 e1, .int .i64 e2, .int .i64 e3] 78)) := hbr.alloc hbr.size _
                    have X1 := Lib.hid (cell_below x1 hqx)
                    have X2 := Lib.hid (cell_below x2 hqx)
                    have X3 := Lib.hid (cell_below x3 hqx)
                    have hBS := Nat.lt_of_lt_of_le hBr hqx.size
                    clear HNb HRow hqx
                    go_wp2_with fail
                    go_roundw
                    case rel => exact ⟨k + 1, by omega, hk1, by go_num, ⟨av, cv, by rw [hin.out], by rw [hin.out]; exact hne, by rw [hin.out]; exact HRowS⟩, X1.out, X2.out, X3.out, hbS, hBS⟩
                    case measure => first | (simp [intOf]; exact hmeas) | simpa [intOf] using hmeas

            · obtain rfl : k = l.length := by omega
              have hnl : ¬ ((l.length : Int) < (l.length : Int)) := by omega
              have hin : Hid ((∃ a c, Value.slice av (S0 ++ pinK l g i l.length).length cv = .slice a (poutK l g (i + 1)).length c) ∧ Hid (wr.ownsRow w.heap.size 82 2 (.slice av (S0 ++ pinK l g i l.length).length cv) (poutK l g (i + 1)).length (clS (poutK l g (i + 1))))) := Lib.hid (by rw [HPi.out]; exact ⟨⟨_, _, rfl⟩, HRow⟩)
              clear HCl HF HL HPB HNr HPi Y1 Y2 Y3 HRx hI0 hbx hBx hne0 HRow x1 x2 x3 hne
              go_wp2_with fail
              go_roundw
              case rel => exact ⟨i + 1, hi1, by go_num, hin.out.1, hin.out.2, hbr⟩
              case measure => first | (simp [intOf]; exact hmeasO) | simpa [intOf] using hmeasO
        · obtain rfl : i = l.length := by omega
          have hE := Lib.hid (HEnd.out _ _ _ HRow.out hbu)
          clear HCl HF HL HPL HPo HPB HEnd HRow
          go_wp2_with fail
          go_ret2
          exact hE.out
end Go.Proofs.Ytdiabpcpcilclaa
