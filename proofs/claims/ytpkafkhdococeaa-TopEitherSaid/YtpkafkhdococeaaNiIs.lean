/-
  IsShortage of package night and of its reference. By an AI agent.
-/
import Derived.Test.YtpkafkhdococeaaNiRd
import Derived.Deep.RegionHeld3
import Derived.BigQuiet
import Derived.StillTailTactics
namespace Go.Proofs.Ytpkafkhdococeaa
set_option linter.unusedVariables false
set_option linter.unusedSimpArgs false
open Go.RowKit

set_option maxRecDepth 100000 in
set_option maxHeartbeats 2000000 in
theorem ascending_v (L : Nat) (a : Option Addr) (l : List Int) (ca : Nat) (w : World) (hL : L ≤ 9223372036854775807) (hA : IntsC w a l) :
    Calls Try.prog 65 #[.slice a l.length ca, .int .i64 L] w fun e w' => e = .returned (.bool (indB L l)) ∧ w' = w := by
  obtain ⟨hlen, blk, off, hadr, hc⟩ := hA
  have HC := Lib.hid hc
  have HL : Hid (0 < l.length → a = some ⟨blk, off, none⟩) := Lib.hid fun h => hadr (pos_ne (n := 0) h)
  have HB : Hid (∀ k, k < l.length → badI L l k = true → indB L l = false) := Lib.hid fun k hk h => by unfold indB; rw [anyK_true h _ hk]; rfl
  have HG : Hid ((∀ k, k < l.length → badI L l k = false) → indB L l = true) := Lib.hid fun h => by unfold indB; rw [anyK_false _ h]; rfl
  have HD : Hid (∀ k, badI L l k = (decide (gi l k ≤ prvI l k) || decide ((L : Int) ≤ gi l k))) := Lib.hid fun k => rfl
  have HP : Hid (∀ k, prvI l (k + 1) = gi l k) := Lib.hid fun k => rfl
  have HP0 : Hid (prvI l 0 = -1) := Lib.hid rfl
  clear hc hadr
  go_enter Try.func65, Try.ntmps65
  go_wp2_with fail
  go_loopw [5, 10] (fun v i wr => ∃ k : Nat, k ≤ l.length ∧ i = .int .i64 k ∧ v = .int .i64 (prvI l k) ∧ wr = w ∧ Hid (∀ j, j < k → badI L l j = false)) (fun _ i _ => l.length - (intOf i).toNat)
  case atStart => exact ⟨0, Nat.zero_le _, rfl, by rw [HP0.out], rfl, Lib.hid fun j hj => absurd hj (Nat.not_lt_zero _)⟩
  case round =>
    obtain ⟨k, hk, rfl, rfl, rfl, hN⟩ := hrel
    by_cases hlt : k < l.length
    · obtain rfl := HL.out (by omega)
      have c0 := HC.out k hlt
      have HBk := Lib.hid (HB.out k hlt)
      have HDk := Lib.hid (HD.out k)
      have HPk := Lib.hid (HP.out k)
      have HN1 : Hid (badI L l k = false → ∀ j, j < k + 1 → badI L l j = false) := Lib.hid fun h j hj => by
        by_cases e : j = k
        · subst e; exact h
        · exact hN.out j (by omega)
      clear HB HG HD HP HP0 HC HL hN
      generalize prvI l (k + 1) = p1 at *
      have HPk := HPk.out
      subst HPk
      generalize hx : gi l k = x at *
      generalize prvI l k = p at *
      generalize badI L l k = bd at *
      by_cases h1 : x ≤ p
      · have d1 : decide (x ≤ p) = true := decide_eq_true h1
        have hR := Lib.hid (HBk.out (by rw [HDk.out, d1]; rfl))
        clear HBk HDk HN1 hx
        go_wp2_with fail
        go_ret
        exact ⟨by rw [hR.out]; rfl, rfl⟩
      · have d1 : decide (x ≤ p) = false := decide_eq_false h1
        by_cases h2 : (L : Int) ≤ x
        · have d2 : decide ((L : Int) ≤ x) = true := decide_eq_true h2
          have hR := Lib.hid (HBk.out (by rw [HDk.out, d2]; simp))
          clear HBk HDk HN1 hx
          go_wp2_with fail
          go_ret
          exact ⟨by rw [hR.out]; rfl, rfl⟩
        · have d2 : decide ((L : Int) ≤ x) = false := decide_eq_false h2
          have hN2 := Lib.hid (HN1.out (by rw [HDk.out, d1, d2]; rfl))
          clear HBk HDk HN1
          subst hx
          go_wp2_with fail
          go_roundw
          case rel => exact ⟨k + 1, by omega, by go_num, by first | rfl | trivial | simp, by first | rfl | trivial, hN2⟩
          case measure => simp [intOf]; omega
    · obtain rfl : k = l.length := by omega
      have hR := Lib.hid (HG.out hN.out)
      go_wp2_with fail
      go_ret
      exact ⟨by rw [hR.out]; rfl, rfl⟩
set_option maxRecDepth 100000 in
set_option maxHeartbeats 1000000 in
theorem idxP_any (aa : Option Addr) (l : List (Int)) (ca : Nat) (lb : Array Value) (p : Nat → Bool) (w : World) (hA : IntsC w aa l)
    (hp : ∀ j W, j < l.length → Below w.heap.size w W → Calls Try.prog 88 (#[.int .i64 (gi l j)] ++ lb) W fun e w' => e = .returned (.bool (p j)) ∧ Below W.heap.size W w') :
    Calls Try.prog 98 #[.slice aa l.length ca, .func (.func 88) #[] lb] w fun e w' => e = .returned (.int .i64 (idxK p l.length)) ∧ Below w.heap.size w w' := by
  obtain ⟨hlen, blk, off, hadr, hc⟩ := hA
  have HP := Lib.hid hp
  have HC := Lib.hid hc
  have HH : Hid (∀ k, k < l.length → p k = true → (∀ j, j < k → p j = false) → idxK p l.length = k) := Lib.hid fun k hk h hb => idxK_hit h hb _ hk
  have HM : Hid ((∀ j, j < l.length → p j = false) → idxK p l.length = -1) := Lib.hid fun h => idxK_miss _ h
  have HL : Hid (0 < l.length → aa = some ⟨blk, off, none⟩) := Lib.hid fun h => hadr (pos_ne (n := 0) h)
  generalize idxK p l.length = R at *
  clear hp hc hadr
  go_enter Try.func98, Try.ntmps98
  go_wp2_with fail
  go_loopw [8] (fun i wr => ∃ k : Nat, k ≤ l.length ∧ i = .int .i64 k ∧ Below w.heap.size w wr ∧ Hid (∀ j, j < k → p j = false)) (fun i _ => l.length - (intOf i).toNat)
  case atStart => exact ⟨0, Nat.zero_le _, rfl, Below.refl _ _, Lib.hid fun j hj => absurd hj (Nat.not_lt_zero _)⟩
  case round =>
    obtain ⟨k, hk, rfl, hb, HA⟩ := hrel
    by_cases hlt : k < l.length
    · obtain rfl := HL.out (by omega)
      have c0 := cell_below (HC.out k hlt) hb
      have HK := Lib.hid (fun W => HP.out k W hlt)
      have HHk := Lib.hid (HH.out k hlt)
      have HN : Hid (p k = false → ∀ j, j < k + 1 → p j = false) := Lib.hid fun h j hj => by
        by_cases e : j = k
        · subst e; exact h
        · exact HA.out j (by omega)
      clear HP HC HM HL HH
      generalize (gi l k) = x0 at *
      cases hpk : p k with
      | true =>
        have HR := Lib.hid (HHk.out hpk HA.out)
        rw [hpk] at HK
        clear hpk HHk HN
        go_wp2_with fail
        refine (HK.out _ hb).mono ?_
        rintro e w1 ⟨rfl, hb1⟩
        go_wp2_with fail
        go_ret
        rw [HR.out]
        exact ⟨rfl, hb.trans (hb1.mono hb.size)⟩
      | false =>
        have HR := Lib.hid (HN.out hpk)
        rw [hpk] at HK
        clear hpk HHk HN
        go_wp2_with fail
        refine (HK.out _ hb).mono ?_
        rintro e w1 ⟨rfl, hb1⟩
        go_wp2_with fail
        go_roundw
        case rel => exact ⟨k + 1, by omega, by go_num, hb.trans (hb1.mono hb.size), HR⟩
        case measure => simp [intOf]; omega
    · obtain rfl : k = l.length := by omega
      have HR := Lib.hid (HM.out HA.out)
      go_wp2_with fail
      go_ret
      rw [HR.out]
      exact ⟨rfl, hb⟩

set_option maxRecDepth 100000 in
theorem containsP_any (aa : Option Addr) (l : List (Int)) (ca : Nat) (lb : Array Value) (p : Nat → Bool) (w : World) (hA : IntsC w aa l)
    (hp : ∀ j W, j < l.length → Below w.heap.size w W → Calls Try.prog 88 (#[.int .i64 (gi l j)] ++ lb) W fun e w' => e = .returned (.bool (p j)) ∧ Below W.heap.size W w') :
    Calls Try.prog 81 #[.slice aa l.length ca, .func (.func 88) #[] lb] w fun e w' => e = .returned (.bool (anyK p l.length)) ∧ Below w.heap.size w w' := by
  have H := Lib.hid (idxP_any aa l ca lb p w hA hp)
  have hq := Lib.hid (idxK_any p l.length)
  clear hp hA
  generalize idxK p l.length = R at *
  generalize anyK p l.length = B at *
  have hq := hq.out
  subst hq
  go_enter Try.func81, Try.ntmps81
  go_wp2_with fail
  refine H.out.mono ?_
  rintro e w1 ⟨rfl, hb1⟩
  go_wp2_with fail
  all_goals
    go_ret
    exact ⟨by simp_all, hb1⟩

set_option maxRecDepth 100000 in
set_option maxHeartbeats 1000000 in
theorem pf1_r (js : List Jo) (s : Ni) (ja : Option Addr) (jc Bj Bn m : Nat) (hm : m < js.length) (w : World) (hJ : JobsS w ja js) (pj : w.cell? ⟨Bj, 0, none⟩ = some (.slice ja js.length jc)) (q0 : w.cell? ⟨Bn, 0, none⟩ = some (.int .i64 s.d)) (q1 : w.cell? ⟨Bn, 1, none⟩ = some (.int .i64 s.r)) (q2 : w.cell? ⟨Bn, 2, none⟩ = some (.int .i64 s.f)) (q3 : w.cell? ⟨Bn, 3, none⟩ = some (.int .i64 s.t)) (q4 : w.cell? ⟨Bn, 4, none⟩ = some (.int .i64 s.w)) (q5 : w.cell? ⟨Bn, 5, none⟩ = some (.int .i64 s.p)) (q6 : w.cell? ⟨Bn, 6, none⟩ = some (.bool s.rn)) (q7 : w.cell? ⟨Bn, 7, none⟩ = some (.bool s.fr)) :
    Calls Try.prog 88 (#[.int .i64 m] ++ #[.pointer (some ⟨Bj, 0, none⟩), .pointer (some ⟨Bn, 0, none⟩)]) w fun e w' => e = .returned (.bool (fitB (gj js m) s)) ∧ Below w.heap.size w w' := by
  obtain ⟨hlen, blk, off, hadr, hc⟩ := hJ
  obtain rfl := hadr (pos_ne (n := 0) hm)
  obtain ⟨c0, c1, c2, c3, c4, c5, c6, c7⟩ := hc m hm
  clear hc hadr
  generalize gj js m = j at *
  have HF := Lib.hid (fun W => fits_r j s W)
  have hk1 : decide ((0 : Int) ≤ m) = true := decide_eq_true (by omega)
  have hk2 : decide ((m : Int) < js.length) = true := decide_eq_true (by omega)
  go_enter Try.func88, Try.ntmps88
  go_wp2_with fail
  go_still_tail 5, (by kernel_rfl)
  change wpList _ _ _ _ _ w.drew
  have hb := (Below.refl w.heap.size w).drew
  generalize w.drew = wq at hb ⊢
  go_wp2_with fail
  refine (HF.out _).mono ?_
  rintro e w1 ⟨rfl, hb1⟩
  go_wp2_with fail
  go_ret
  exact ⟨rfl, below_onN hb hb1 hb.size⟩
set_option maxRecDepth 100000 in
set_option maxHeartbeats 4000000 in
theorem placesFor_v (ja : Option Addr) (js : List Jo) (jc : Nat) (na : Option Addr) (ns : List Ni) (nc : Nat) (a : Option Addr) (l : List Int) (ca : Nat) (w : World) (hJ : JobsS w ja js) (hNi : NightsS w na ns) (hA : IntsC w a l)
    (hi : ∀ i, i < l.length → ∃ m : Nat, gi l i = m ∧ m < js.length) (hp : ∀ i, i < ns.length → 0 ≤ (gn ns i).p ∧ (gn ns i).p ≤ 100) (hn : ns.length ≤ 1000) :
    Calls Try.prog 66 #[.slice ja js.length jc, .slice na ns.length nc, .slice a l.length ca] w fun e w' => e = .returned (.int .i64 (pS js ns l ns.length)) ∧ Below w.heap.size w w' := by
  have HCF := Lib.hid (fun (W : World) (s : Ni) (Bj Bn : Nat) (hW : Below w.heap.size w W) (pj : W.cell? ⟨Bj, 0, none⟩ = some (.slice ja js.length jc)) (q0 : W.cell? ⟨Bn, 0, none⟩ = some (.int .i64 s.d)) (q1 : W.cell? ⟨Bn, 1, none⟩ = some (.int .i64 s.r)) (q2 : W.cell? ⟨Bn, 2, none⟩ = some (.int .i64 s.f)) (q3 : W.cell? ⟨Bn, 3, none⟩ = some (.int .i64 s.t)) (q4 : W.cell? ⟨Bn, 4, none⟩ = some (.int .i64 s.w)) (q5 : W.cell? ⟨Bn, 5, none⟩ = some (.int .i64 s.p)) (q6 : W.cell? ⟨Bn, 6, none⟩ = some (.bool s.rn)) (q7 : W.cell? ⟨Bn, 7, none⟩ = some (.bool s.fr)) =>
    containsP_any a l ca #[.pointer (some ⟨Bj, 0, none⟩), .pointer (some ⟨Bn, 0, none⟩)] (fun i => fitB (gj js (gi l i).toNat) s) W (hA.below hW) (fun i W' hil hW' => by
      obtain ⟨m, hm, hmj⟩ := hi i hil
      rw [hm, Int.toNat_natCast]
      exact pf1_r js s ja jc Bj Bn m hmj W' ((hJ.below hW).below hW') (cell_below pj hW') (cell_below q0 hW') (cell_below q1 hW') (cell_below q2 hW') (cell_below q3 hW') (cell_below q4 hW') (cell_below q5 hW') (cell_below q6 hW') (cell_below q7 hW')))
  have hl2 := hNi.1
  obtain ⟨nb, no, HNa, HNc⟩ := nights_cells hNi
  have HPb := Lib.hid (pS_b js ns l hp)
  have HP : Hid (∀ k, pS js ns l (k + 1) = if oneB js l (gn ns k) l.length = true then pS js ns l k + (gn ns k).p else pS js ns l k) := Lib.hid fun k => rfl
  have HP0 : Hid (pS js ns l 0 = 0) := Lib.hid rfl
  have HO : Hid (∀ s, anyK (fun i => fitB (gj js (gi l i).toNat) s) l.length = oneB js l s l.length) := Lib.hid fun s => rfl
  have HPp := Lib.hid hp
  have hl1 := hA.1
  clear hJ hNi hi hp hA
  obtain ⟨wB, hwB⟩ : ∃ wB, w.alloc (.cells #[.slice ja js.length jc] 22) = wB := ⟨_, rfl⟩
  have hbB : Below w.heap.size w wB := by rw [← hwB]; exact (Below.refl _ _).alloc (Nat.le_refl _) _
  have pj : wB.cell? ⟨w.heap.size, 0, none⟩ = some (.slice ja js.length jc) := by rw [← hwB]; simp [go_sem]
  go_enter Try.func66, Try.ntmps66
  go_wp2_with fail
  go_loopw [7, 12] (fun v i wr => ∃ k : Nat, k ≤ ns.length ∧ i = .int .i64 k ∧ v = .int .i64 (pS js ns l k) ∧ Below w.heap.size w wr ∧ wr.cell? ⟨w.heap.size, 0, none⟩ = some (.slice ja js.length jc)) (fun _ i _ => ns.length - (intOf i).toNat)
  case atStart => exact ⟨0, Nat.zero_le _, rfl, by rw [HP0.out], hbB, pj⟩
  case round =>
    obtain ⟨k, hk, rfl, rfl, hb, pj⟩ := hrel
    clear hwB hbB
    by_cases hlt : k < ns.length
    · obtain rfl := HNa.out (by omega)
      obtain ⟨d0, d1, d2, d3, d4, d5, d6, d7⟩ := HNc.out k hlt
      have d0 := cell_below d0 hb
      have d1 := cell_below d1 hb
      have d2 := cell_below d2 hb
      have d3 := cell_below d3 hb
      have d4 := cell_below d4 hb
      have d5 := cell_below d5 hb
      have d6 := cell_below d6 hb
      have d7 := cell_below d7 hb
      obtain ⟨hb1, hb2⟩ := HPb.out k hk
      obtain ⟨hp1, hp2⟩ := HPp.out k hlt
      have HPk := Lib.hid (HP.out k)
      have HOk := Lib.hid (HO.out (gn ns k))
      clear HNa HNc HPb HPp HP HP0 HO
      generalize gn ns k = s at *
      generalize pS js ns l k = S at *
      have hwS : IntKind.i64.wrap (S + s.p) = S + s.p := IntWalk.i64_in _ (by omega)
      obtain ⟨wC, hwC⟩ : ∃ wC, wr.alloc (.cells #[.int .i64 s.d, .int .i64 s.r, .int .i64 s.f, .int .i64 s.t, .int .i64 s.w, .int .i64 s.p, .bool s.rn, .bool s.fr] 55) = wC := ⟨_, rfl⟩
      have hbC : Below wr.heap.size wr wC := by rw [← hwC]; exact (Below.refl _ _).alloc (Nat.le_refl _) _
      have q0 : wC.cell? ⟨wr.heap.size, 0, none⟩ = some (.int .i64 s.d) := by rw [← hwC]; simp [go_sem]
      have q1 : wC.cell? ⟨wr.heap.size, 1, none⟩ = some (.int .i64 s.r) := by rw [← hwC]; simp [go_sem]
      have q2 : wC.cell? ⟨wr.heap.size, 2, none⟩ = some (.int .i64 s.f) := by rw [← hwC]; simp [go_sem]
      have q3 : wC.cell? ⟨wr.heap.size, 3, none⟩ = some (.int .i64 s.t) := by rw [← hwC]; simp [go_sem]
      have q4 : wC.cell? ⟨wr.heap.size, 4, none⟩ = some (.int .i64 s.w) := by rw [← hwC]; simp [go_sem]
      have q5 : wC.cell? ⟨wr.heap.size, 5, none⟩ = some (.int .i64 s.p) := by rw [← hwC]; simp [go_sem]
      have q6 : wC.cell? ⟨wr.heap.size, 6, none⟩ = some (.bool s.rn) := by rw [← hwC]; simp [go_sem]
      have q7 : wC.cell? ⟨wr.heap.size, 7, none⟩ = some (.bool s.fr) := by rw [← hwC]; simp [go_sem]
      have pj := cell_below pj hbC
      have hb := below_onN hb hbC hb.size
      have HC := Lib.hid (HCF.out wC s w.heap.size wr.heap.size hb pj q0 q1 q2 q3 q4 q5 q6 q7)
      rw [HOk.out] at HC
      clear HCF HOk hbC
      generalize oneB js l s l.length = o at *
      cases o with
      | true =>
        have hS : Hid (pS js ns l (k + 1) = S + s.p) := Lib.hid (HPk.out.trans (if_pos rfl))
        clear HPk
        go_wp2_with fail
        refine HC.out.mono ?_
        rintro e w1 ⟨rfl, hb1⟩
        have q5 := cell_below q5 hb1
        have pj := cell_below pj hb1
        have hb := below_onN hb hb1 hb.size
        clear hb1 HC
        go_wp2_with fail
        go_roundw
        case rel => exact ⟨k + 1, by omega, by go_num, by rw [hS.out], hb, pj⟩
        case measure => simp [intOf]; omega
      | false =>
        have hS : Hid (pS js ns l (k + 1) = S) := Lib.hid (HPk.out.trans (if_neg (by decide)))
        clear HPk
        go_wp2_with fail
        refine HC.out.mono ?_
        rintro e w1 ⟨rfl, hb1⟩
        have pj := cell_below pj hb1
        have hb := below_onN hb hb1 hb.size
        clear hb1 HC
        go_wp2_with fail
        go_roundw
        case rel => exact ⟨k + 1, by omega, by go_num, by rw [hS.out], hb, pj⟩
        case measure => simp [intOf]; omega
    · obtain rfl : k = ns.length := by omega
      go_wp2_with fail
      go_ret
      exact ⟨rfl, hb⟩
/-- Is a list a shortage? -/
def isB (js : List Jo) (ns : List Ni) (l : List Int) : Bool := indB js.length l && decide (pS js ns l ns.length < l.length)
def isV (js : List Jo) (ns : List Ni) (l : List Int) : Bool := if errL js ns = 0 then isB js ns l else false
theorem indB_nat2 {L : Nat} {l : List Int} (h : indB L l = true) : ∀ k, k < l.length → ∃ m : Nat, gi l k = m ∧ m < L := by
  have hget : ∀ k, k < l.length → prvI l k < gi l k ∧ gi l k < L := fun k hk => by
    have h0 := h
    unfold indB at h0
    rw [Bool.not_eq_true', anyK_iff] at h0
    have h1 := h0 k hk
    unfold badI at h1
    rw [Bool.or_eq_false_iff, decide_eq_false_iff_not, decide_eq_false_iff_not] at h1
    omega
  have hlo : ∀ k, k < l.length → 0 ≤ gi l k := fun k => by
    induction k with
    | zero => intro hk; have := (hget 0 hk).1; simp only [prvI] at this; omega
    | succ k ih => intro hk; have h1 := ih (by omega); have h2 := (hget (k + 1) hk).1; simp only [prvI] at h2; omega
  intro k hk
  have h1 := hlo k hk
  have h2 := (hget k hk).2
  exact ⟨(gi l k).toNat, by omega, by omega⟩
set_option maxRecDepth 100000 in
set_option maxHeartbeats 2000000 in
theorem isShortage_r (ja : Option Addr) (js : List Jo) (jc : Nat) (na : Option Addr) (ns : List Ni) (nc : Nat) (a : Option Addr) (l : List Int) (ca : Nat) (w : World) (hJ : JobsS w ja js) (hN : NightsS w na ns) (hA : IntsC w a l) :
    Calls Try.prog 30 #[.slice ja js.length jc, .slice na ns.length nc, .slice a l.length ca] w fun e w' => e = .returned (.tuple #[.bool (isV js ns l), .int .i64 (errL js ns)]) ∧ Below w.heap.size w w' := by
  have H1 := Lib.hid (listsError_r ja js jc na ns nc w hJ hN)
  have hjl := hJ.1
  have hal := hA.1
  by_cases he : errL js ns = 0
  · have hV : isV js ns l = isB js ns l := by unfold isV; rw [if_pos he]
    have v2 := (errL_ok he).2
    have hnn := nightsB_len v2
    have hjn := jobsB_len (errL_ok he).1
    have hps : ∀ i, i < ns.length → 0 ≤ (gn ns i).p ∧ (gn ns i).p ≤ 100 := fun i hi => nightB_p (nightsB_ok v2 hi)
    have H2 := Lib.hid (fun W (hW : Below w.heap.size w W) => ascending_v js.length a l ca W hjl (hA.below hW))
    cases hi : indB js.length l with
    | false =>
      have HV : Hid (isV js ns l = false) := Lib.hid (by rw [hV]; unfold isB; rw [hi]; rfl)
      rw [hi] at H2
      rw [he] at H1 ⊢
      clear hV hJ hN hA he hps v2 hi
      go_enter Try.func30, Try.ntmps30
      go_wp2_with fail
      refine H1.out.mono ?_
      rintro e w1 ⟨rfl, hb1⟩
      go_wp2_with fail
      refine (H2.out _ hb1).mono ?_
      rintro e w2 ⟨rfl, rfl⟩
      go_wp2_with fail
      go_ret2
      exact ⟨by rw [HV.out]; rfl, hb1⟩
    | true =>
      have H3 := Lib.hid (fun W (hW : Below w.heap.size w W) => placesFor_v ja js jc na ns nc a l ca W (hJ.below hW) (hN.below hW) (hA.below hW) (indB_nat2 hi) hps (by omega))
      have HV : Hid (isV js ns l = decide (pS js ns l ns.length < l.length)) := Lib.hid (by rw [hV]; unfold isB; rw [hi]; rfl)
      rw [hi] at H2
      rw [he] at H1 ⊢
      clear hV hJ hN hA he hps v2 hi
      generalize pS js ns l ns.length = S at *
      go_enter Try.func30, Try.ntmps30
      go_wp2_with fail
      refine H1.out.mono ?_
      rintro e w1 ⟨rfl, hb1⟩
      go_wp2_with fail
      refine (H2.out _ hb1).mono ?_
      rintro e w2 ⟨rfl, rfl⟩
      go_wp2_with fail
      refine (H3.out _ hb1).mono ?_
      rintro e w3 ⟨rfl, hb3⟩
      go_wp2_with fail
      go_ret2
      exact ⟨by rw [HV.out]; rfl, below_onN hb1 hb3 hb1.size⟩
  · have HV : Hid (isV js ns l = false) := Lib.hid (by unfold isV; rw [if_neg he])
    clear hJ hN hA
    generalize errL js ns = E at *
    have hE : (E == 0) = false := beq_false_of_ne he
    clear he
    go_enter Try.func30, Try.ntmps30
    go_wp2_with fail
    refine H1.out.mono ?_
    rintro e w1 ⟨rfl, hb1⟩
    go_wp2_with fail
    go_ret2
    exact ⟨by rw [HV.out]; rfl, hb1⟩
set_option maxRecDepth 100000 in
set_option maxHeartbeats 2000000 in
theorem refIsShortage_r (ja : Option Addr) (js : List Jo) (jc : Nat) (na : Option Addr) (ns : List Ni) (nc : Nat) (a : Option Addr) (l : List Int) (ca : Nat) (w : World) (hJ : JobsS w ja js) (hN : NightsS w na ns) (hA : IntsC w a l) :
    Calls Try.prog 31 #[.slice ja js.length jc, .slice na ns.length nc, .slice a l.length ca] w fun e w' => e = .returned (.tuple #[.bool (isV js ns l), .int .i64 (errL js ns)]) ∧ Below w.heap.size w w' := by
  have H1 := Lib.hid (wrong_r ja js jc na ns nc w hJ hN)
  have hjl := hJ.1
  have hal := hA.1
  by_cases he : errL js ns = 0
  · have hV : isV js ns l = isB js ns l := by unfold isV; rw [if_pos he]
    have v2 := (errL_ok he).2
    have hnn := nightsB_len v2
    have hjn := jobsB_len (errL_ok he).1
    have hps : ∀ i, i < ns.length → 0 ≤ (gn ns i).p ∧ (gn ns i).p ≤ 100 := fun i hi => nightB_p (nightsB_ok v2 hi)
    have H2 := Lib.hid (fun W (hW : Below w.heap.size w W) => indexes_v ja js.length jc a l ca W hjl (hA.below hW))
    cases hi : indB js.length l with
    | false =>
      have HV : Hid (isV js ns l = false) := Lib.hid (by rw [hV]; unfold isB; rw [hi]; rfl)
      rw [hi] at H2
      rw [he] at H1 ⊢
      clear hV hJ hN hA he hps v2 hi
      go_enter Try.func31, Try.ntmps31
      go_wp2_with fail
      refine H1.out.mono ?_
      rintro e w1 ⟨rfl, hb1⟩
      go_wp2_with fail
      refine (H2.out _ hb1).mono ?_
      rintro e w2 ⟨rfl, rfl⟩
      go_wp2_with fail
      go_ret2
      exact ⟨by rw [HV.out]; rfl, hb1⟩
    | true =>
      have H3 := Lib.hid (fun W (hW : Below w.heap.size w W) => places_v ja js jc na ns nc a l ca W (hJ.below hW) (hN.below hW) (hA.below hW) (indB_nat2 hi) hps (by omega))
      have HV : Hid (isV js ns l = decide (pS js ns l ns.length < l.length)) := Lib.hid (by rw [hV]; unfold isB; rw [hi]; rfl)
      rw [hi] at H2
      rw [he] at H1 ⊢
      clear hV hJ hN hA he hps v2 hi
      generalize pS js ns l ns.length = S at *
      go_enter Try.func31, Try.ntmps31
      go_wp2_with fail
      refine H1.out.mono ?_
      rintro e w1 ⟨rfl, hb1⟩
      go_wp2_with fail
      refine (H2.out _ hb1).mono ?_
      rintro e w2 ⟨rfl, rfl⟩
      go_wp2_with fail
      refine (H3.out _ hb1).mono ?_
      rintro e w3 ⟨rfl, hb3⟩
      go_wp2_with fail
      go_ret2
      exact ⟨by rw [HV.out]; rfl, below_onN hb1 hb3 hb1.size⟩
  · have HV : Hid (isV js ns l = false) := Lib.hid (by unfold isV; rw [if_neg he])
    clear hJ hN hA
    generalize errL js ns = E at *
    have hE : (E == 0) = false := beq_false_of_ne he
    clear he
    go_enter Try.func31, Try.ntmps31
    go_wp2_with fail
    refine H1.out.mono ?_
    rintro e w1 ⟨rfl, hb1⟩
    go_wp2_with fail
    go_ret2
    exact ⟨by rw [HV.out]; rfl, hb1⟩
end Go.Proofs.Ytpkafkhdococeaa
