/-
  Indexes and Places of the reference of package night; Wide of the laws. By an AI agent.
-/
import Derived.Test.YtpkafkhdococeaaNiRc
import Derived.Deep.RegionHeld3
import Derived.BigQuiet
import Derived.StillTailTactics
namespace Go.Proofs.Ytpkafkhdococeaa
set_option linter.unusedVariables false
set_option linter.unusedSimpArgs false
open Go.RowKit

/-- What stands ahead of place k, or -1. -/
def prvI (l : List Int) : Nat → Int
  | 0 => -1
  | k + 1 => gi l k
/-- Is place k of a list no index above the one ahead of it? -/
def badI (L : Nat) (l : List Int) (k : Nat) : Bool := decide (gi l k ≤ prvI l k) || decide ((L : Int) ≤ gi l k)
/-- Are these indexes in ascending order? -/
def indB (L : Nat) (l : List Int) : Bool := !(anyK (badI L l) l.length)
set_option maxRecDepth 100000 in
set_option maxHeartbeats 2000000 in
theorem indexes_v (ja : Option Addr) (L : Nat) (jc : Nat) (a : Option Addr) (l : List Int) (ca : Nat) (w : World) (hL : L ≤ 9223372036854775807) (hA : IntsC w a l) :
    Calls Try.prog 34 #[.slice ja L jc, .slice a l.length ca] w fun e w' => e = .returned (.bool (indB L l)) ∧ w' = w := by
  obtain ⟨hlen, blk, off, hadr, hc⟩ := hA
  have HC := Lib.hid hc
  have HL : Hid (0 < l.length → a = some ⟨blk, off, none⟩) := Lib.hid fun h => hadr (pos_ne (n := 0) h)
  have HB : Hid (∀ k, k < l.length → badI L l k = true → indB L l = false) := Lib.hid fun k hk h => by unfold indB; rw [anyK_true h _ hk]; rfl
  have HG : Hid ((∀ k, k < l.length → badI L l k = false) → indB L l = true) := Lib.hid fun h => by unfold indB; rw [anyK_false _ h]; rfl
  have HD : Hid (∀ k, badI L l k = (decide (gi l k ≤ prvI l k) || decide ((L : Int) ≤ gi l k))) := Lib.hid fun k => rfl
  have HP : Hid (∀ k, prvI l (k + 1) = gi l k) := Lib.hid fun k => rfl
  have HP0 : Hid (prvI l 0 = -1) := Lib.hid rfl
  clear hc hadr
  go_enter Try.func34, Try.ntmps34
  go_wp2_with fail
  go_loopw [5, 6] (fun v i wr => ∃ k : Nat, k ≤ l.length ∧ i = .int .i64 k ∧ v = .int .i64 (prvI l k) ∧ wr = w ∧ Hid (∀ j, j < k → badI L l j = false)) (fun _ i _ => l.length - (intOf i).toNat)
  case atStart => exact ⟨0, Nat.zero_le _, rfl, by rw [HP0.out], rfl, Lib.hid fun j hj => absurd hj (Nat.not_lt_zero _)⟩
  case round =>
    obtain ⟨k, hk, rfl, rfl, rfl, hN⟩ := hrel
    by_cases hlt : k < l.length
    · obtain rfl := HL.out (by omega)
      have c0 := HC.out k hlt
      have HBk := Lib.hid (HB.out k hlt)
      have HDk := Lib.hid (HD.out k)
      have HPk := Lib.hid (HP.out k)
      have HN1 : Hid (badI L l k = false → ∀ j, j < k + 1 → badI L l j = false) := Lib.hid fun h j hj => by
        by_cases e : j = k
        · subst e; exact h
        · exact hN.out j (by omega)
      clear HB HG HD HP HP0 HC HL hN
      generalize prvI l (k + 1) = p1 at *
      have HPk := HPk.out
      subst HPk
      generalize hx : gi l k = x at *
      generalize prvI l k = p at *
      generalize badI L l k = bd at *
      by_cases h1 : x ≤ p
      · have d1 : decide (x ≤ p) = true := decide_eq_true h1
        have hR := Lib.hid (HBk.out (by rw [HDk.out, d1]; rfl))
        clear HBk HDk HN1 hx
        go_wp2_with fail
        go_ret
        exact ⟨by rw [hR.out]; rfl, rfl⟩
      · have d1 : decide (x ≤ p) = false := decide_eq_false h1
        by_cases h2 : (L : Int) ≤ x
        · have d2 : decide ((L : Int) ≤ x) = true := decide_eq_true h2
          have hR := Lib.hid (HBk.out (by rw [HDk.out, d2]; simp))
          clear HBk HDk HN1 hx
          go_wp2_with fail
          go_ret
          exact ⟨by rw [hR.out]; rfl, rfl⟩
        · have d2 : decide ((L : Int) ≤ x) = false := decide_eq_false h2
          have hN2 := Lib.hid (HN1.out (by rw [HDk.out, d1, d2]; rfl))
          clear HBk HDk HN1
          subst hx
          go_wp2_with fail
          go_roundw
          case rel => exact ⟨k + 1, by omega, by go_num, by first | rfl | trivial | simp, by first | rfl | trivial, hN2⟩
          case measure => simp [intOf]; omega
    · obtain rfl : k = l.length := by omega
      have hR := Lib.hid (HG.out hN.out)
      go_wp2_with fail
      go_ret
      exact ⟨by rw [hR.out]; rfl, rfl⟩
/-- Does one of the first q jobs of a list fit a night? -/
def oneB (js : List Jo) (l : List Int) (n : Ni) (q : Nat) : Bool := anyK (fun i => fitB (gj js (gi l i).toNat) n) q
/-- The places of those of the first k nights that one of some jobs fits. -/
def pS (js : List Jo) (ns : List Ni) (l : List Int) : Nat → Int
  | 0 => 0
  | k + 1 => if oneB js l (gn ns k) l.length = true then pS js ns l k + (gn ns k).p else pS js ns l k
theorem pS_b (js : List Jo) (ns : List Ni) (l : List Int) (hp : ∀ i, i < ns.length → 0 ≤ (gn ns i).p ∧ (gn ns i).p ≤ 100) : ∀ k, k ≤ ns.length → 0 ≤ pS js ns l k ∧ pS js ns l k ≤ 100 * k
  | 0, _ => by simp [pS]
  | k + 1, hk => by
    have h1 := pS_b js ns l hp k (by omega)
    have h2 := hp k (by omega)
    unfold pS
    split <;> constructor <;> omega
set_option maxRecDepth 100000 in
set_option maxHeartbeats 4000000 in
theorem places_v (ja : Option Addr) (js : List Jo) (jc : Nat) (na : Option Addr) (ns : List Ni) (nc : Nat) (a : Option Addr) (l : List Int) (ca : Nat) (w : World) (hJ : JobsS w ja js) (hNi : NightsS w na ns) (hA : IntsC w a l)
    (hi : ∀ i, i < l.length → ∃ m : Nat, gi l i = m ∧ m < js.length) (hp : ∀ i, i < ns.length → 0 ≤ (gn ns i).p ∧ (gn ns i).p ≤ 100) (hn : ns.length ≤ 1000) :
    Calls Try.prog 35 #[.slice ja js.length jc, .slice na ns.length nc, .slice a l.length ca] w fun e w' => e = .returned (.int .i64 (pS js ns l ns.length)) ∧ Below w.heap.size w w' := by
  have hl1 := hJ.1
  obtain ⟨jb, jo, HJa, HJc⟩ := jobs_cells hJ
  obtain ⟨nb, no, HNa, HNc⟩ := nights_cells hNi
  obtain ⟨hlen, blk, off, hadr, hc⟩ := hA
  have HC := Lib.hid hc
  have HL : Hid (0 < l.length → a = some ⟨blk, off, none⟩) := Lib.hid fun h => hadr (pos_ne (n := 0) h)
  have HPb := Lib.hid (pS_b js ns l hp)
  have HP : Hid (∀ k, pS js ns l (k + 1) = if oneB js l (gn ns k) l.length = true then pS js ns l k + (gn ns k).p else pS js ns l k) := Lib.hid fun k => rfl
  have HP0 : Hid (pS js ns l 0 = 0) := Lib.hid rfl
  have HI := Lib.hid hi
  have HPp := Lib.hid hp
  clear hc hadr hJ hNi hi hp
  go_enter Try.func35, Try.ntmps35
  go_wp2_with fail
  go_loopw [7, 8] (fun v i wr => ∃ k : Nat, k ≤ ns.length ∧ i = .int .i64 k ∧ v = .int .i64 (pS js ns l k) ∧ Below w.heap.size w wr) (fun _ i _ => ns.length - (intOf i).toNat)
  case atStart => exact ⟨0, Nat.zero_le _, rfl, by rw [HP0.out], Below.refl _ _⟩
  case round =>
    obtain ⟨k, hk, rfl, rfl, hb⟩ := hrel
    by_cases hlt : k < ns.length
    · obtain rfl := HNa.out (by omega)
      obtain ⟨d0, d1, d2, d3, d4, d5, d6, d7⟩ := HNc.out k hlt
      obtain ⟨hb1, hb2⟩ := HPb.out k hk
      obtain ⟨hp1, hp2⟩ := HPp.out k hlt
      have HPk := Lib.hid (HP.out k)
      have HO : Hid (∀ q, oneB js l (gn ns k) (q + 1) = (oneB js l (gn ns k) q || fitB (gj js (gi l q).toNat) (gn ns k))) := Lib.hid fun q => rfl
      have HO0 : Hid (oneB js l (gn ns k) 0 = false) := Lib.hid rfl
      clear HNa HNc HPb HPp HP HP0
      generalize gn ns k = s at *
      generalize pS js ns l k = S at *
      have k3 : decide ((0 : Int) ≤ k) = true := decide_eq_true (by omega)
      have k4 : decide ((k : Int) < ns.length) = true := decide_eq_true (by omega)
      have hwS : IntKind.i64.wrap (S + s.p) = S + s.p := IntWalk.i64_in _ (by omega)
      go_wp2_with fail
      obtain ⟨wo, rfl⟩ : ∃ wo : World, wo = wr := ⟨_, rfl⟩
      go_loopw [9, 10] (fun v i wr => ∃ q : Nat, q ≤ l.length ∧ i = .int .i64 q ∧ v = .bool (oneB js l s q) ∧ Below w.heap.size w wr) (fun _ i _ => l.length - (intOf i).toNat)
      case atStart => exact ⟨0, Nat.zero_le _, rfl, by rw [HO0.out], hb⟩
      case round =>
        obtain ⟨q, hq, rfl, rfl, hb⟩ := hrel
        by_cases hlq : q < l.length
        · obtain rfl := HL.out (by omega)
          obtain ⟨m, hm, hmj⟩ := HI.out q hlq
          obtain rfl := HJa.out (by omega)
          obtain ⟨c0, c1, c2, c3, c4, c5, c6, c7⟩ := HJc.out m hmj
          have e0 := HC.out q hlq
          have HOq := Lib.hid (HO.out q)
          rw [hm] at e0 HOq
          rw [Int.toNat_natCast] at HOq
          clear hm HO HO0 HL HI HJa HJc HC HPk
          generalize gj js m = j at *
          generalize oneB js l s q = o at *
          have e0 := cell_below e0 hb
          have c0 := cell_below c0 hb
          have c1 := cell_below c1 hb
          have c2 := cell_below c2 hb
          have c3 := cell_below c3 hb
          have c4 := cell_below c4 hb
          have c5 := cell_below c5 hb
          have c6 := cell_below c6 hb
          have c7 := cell_below c7 hb
          have d0 := cell_below d0 hb
          have d1 := cell_below d1 hb
          have d2 := cell_below d2 hb
          have d3 := cell_below d3 hb
          have d4 := cell_below d4 hb
          have d5 := cell_below d5 hb
          have d6 := cell_below d6 hb
          have d7 := cell_below d7 hb
          have k1 : decide ((0 : Int) ≤ m) = true := decide_eq_true (by omega)
          have k2 : decide ((m : Int) < js.length) = true := decide_eq_true (by omega)
          have k5 : decide ((0 : Int) ≤ q) = true := decide_eq_true (by omega)
          have k6 : decide ((q : Int) < l.length) = true := decide_eq_true (by omega)
          cases o with
          | true =>
            have h1 : Hid (oneB js l s (q + 1) = true) := Lib.hid (by rw [HOq.out]; rfl)
            clear HOq
            go_wp2_with fail
            go_quiet (fail)
            go_wp2_with fail
            go_roundw
            case rel => exact ⟨q + 1, by omega, by go_num, by rw [h1.out], below_drewN hb _⟩
            case measure => simp [intOf]; omega
          | false =>
            have h1 : Hid (oneB js l s (q + 1) = fitB j s) := Lib.hid (by rw [HOq.out]; rfl)
            clear HOq
            have HF := Lib.hid (fun W => refFits_r j s W)
            generalize fitB j s = fb at *
            go_wp2_with fail
            go_still_tail 13, (by kernel_rfl)
            change wpList _ _ _ _ _ wr.drew
            have hb := hb.drew
            generalize wr.drew = wq at hb ⊢
            clear c0 c1 c2 c3 c4 c5 c6 c7 d0 d1 d2 d3 d4 d5 d6 d7 e0
            go_wp2_with fail
            refine (HF.out _).mono ?_
            rintro e w1 ⟨rfl, hb1⟩
            go_wp2_with fail
            go_roundw
            case rel => exact ⟨q + 1, by omega, by go_num, by rw [h1.out], below_onN hb hb1 hb.size⟩
            case measure => simp [intOf]; omega
        · obtain rfl : q = l.length := by omega
          clear HO HO0 HL HI HJa HJc HC
          have d5 := cell_below d5 hb
          generalize oneB js l s l.length = o at *
          cases o with
          | true =>
            have hS : Hid (pS js ns l (k + 1) = S + s.p) := Lib.hid (HPk.out.trans (if_pos rfl))
            clear HPk
            go_wp2_with fail
            go_roundw
            case rel => exact ⟨k + 1, by omega, by go_num, by rw [hS.out], hb⟩
            case measure => simp [intOf]; omega
          | false =>
            have hS : Hid (pS js ns l (k + 1) = S) := Lib.hid (HPk.out.trans (if_neg (by decide)))
            clear HPk
            go_wp2_with fail
            go_roundw
            case rel => exact ⟨k + 1, by omega, by go_num, by rw [hS.out], hb⟩
            case measure => simp [intOf]; omega
    · obtain rfl : k = ns.length := by omega
      go_wp2_with fail
      go_ret
      exact ⟨rfl, hb⟩
/-- Are there more jobs or nights? -/
def wideB (L N : Nat) (j n : Int) : Bool := decide (j < L) || decide (n < N)
theorem wide_v (ja : Option Addr) (L jc : Nat) (na : Option Addr) (N nc : Nat) (j n : Int) (w : World) {v : Bool} (h : wideB L N j n = v) :
    Calls Try.prog 13 #[.agg #[.slice ja L jc, .slice na N nc], .int .i64 j, .int .i64 n] w fun e w' => e = .returned (.bool v) ∧ Below w.heap.size w w' := by
  subst h
  have hb := (Below.refl w.heap.size w).alloc (Nat.le_refl _) (.cells #[.slice ja L jc, .slice na N nc] 25)
  unfold wideB
  by_cases h1 : j < L
  · rw [decide_eq_true h1]
    have d1 : decide (j < (L : Int)) = true := decide_eq_true h1
    go_enter Try.func13, Try.ntmps13
    go_wp2_with fail
    go_ret
    exact ⟨rfl, hb⟩
  · rw [decide_eq_false h1]
    have d1 : decide (j < (L : Int)) = false := decide_eq_false h1
    by_cases h2 : n < N
    · rw [decide_eq_true h2]
      have d2 : decide (n < (N : Int)) = true := decide_eq_true h2
      go_enter Try.func13, Try.ntmps13
      go_wp2_with fail
      go_ret
      exact ⟨rfl, hb⟩
    · rw [decide_eq_false h2]
      have d2 : decide (n < (N : Int)) = false := decide_eq_false h2
      go_enter Try.func13, Try.ntmps13
      go_wp2_with fail
      go_ret
      exact ⟨rfl, hb⟩
end Go.Proofs.Ytpkafkhdococeaa
