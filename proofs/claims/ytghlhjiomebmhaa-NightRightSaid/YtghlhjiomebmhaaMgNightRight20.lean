/-
  Late of package night and of its reference. By an AI agent.; append of a whole list of ints; sameInts of the laws of package night. By an AI agent.; The law NightRight of package night. By an AI agent.; The arguments of package night's laws, opened. By an AI agent.
-/
import Derived.Test.YtghlhjiomebmhaaMgNightRight4
import Derived.Test.YtghlhjiomebmhaaMgNightRight5
import Derived.Test.YtghlhjiomebmhaaMgNightRight11
import Derived.Test.YtghlhjiomebmhaaMgNightRight12
import Derived.Test.YtghlhjiomebmhaaMgNightRight15
import Derived.Test.YtghlhjiomebmhaaMgNightRight19
import Derived.Deep.RegionHeld3
import Derived.BigQuiet
import Derived.Deep.AppendLies
import Derived.Lib.OwnBridge
import Derived.Lib.AppendIntMem
import Derived.Lib.SmallJoins
import Derived.Deep.Slices
import Derived.OpenShut

namespace Go.Proofs.Ytghlhjiomebmhaa
set_option linter.unusedVariables false
set_option linter.unusedSimpArgs false
open Go.RowKit

/-- The weights of those of the first k jobs that have no night. -/
def lateK (l wt : List Int) : Nat → Int
  | 0 => 0
  | k + 1 => lateK l wt k + (if k < l.length ∧ gi l k < 0 then gi wt k else 0)
def wtB (wt : List Int) : Bool := winB 0 1000000 wt
theorem wtB_ok {wt : List Int} (h : wtB wt = true) {i : Nat} (hi : i < wt.length) : 0 ≤ gi wt i ∧ gi wt i ≤ 1000000 := by
  unfold wtB at h
  rw [winB_any, Bool.not_eq_true', anyK_iff] at h
  have := h i hi
  simp only [Bool.not_eq_false'] at this
  exact (btw_iff _ _ _).1 this
theorem wtB_bad {wt : List Int} {i : Nat} (hi : i < wt.length) (h : btw (gi wt i) 0 1000000 = false) : wtB wt = false := by
  unfold wtB
  rw [winB_any, anyK_true (j := i) (by simp [h]) _ hi]; rfl
theorem wtB_all {wt : List Int} (h : ∀ i, i < wt.length → btw (gi wt i) 0 1000000 = true) : wtB wt = true := by
  unfold wtB
  rw [winB_any, anyK_false _ (fun i hi => by simp [h i hi])]; rfl
theorem lateK_b {l wt : List Int} : ∀ k, (∀ i, i < k → 0 ≤ gi wt i ∧ gi wt i ≤ 1000000) → 0 ≤ lateK l wt k ∧ lateK l wt k ≤ 1000000 * k
  | 0, _ => by simp [lateK]
  | k + 1, h => by
    have h1 := lateK_b (l := l) k (fun i hi => h i (by omega))
    have h2 := h k (by omega)
    unfold lateK
    split <;> omega
/-- What Late says. -/
def laV (js : List Jo) (ns : List Ni) (l wt : List Int) : Int := if plnE js ns l = 0 ∧ wt.length = js.length ∧ wtB wt = true then lateK l wt l.length else 0
def laE (js : List Jo) (ns : List Ni) (l wt : List Int) : Int := if plnE js ns l = 0 then (if wt.length = js.length ∧ wtB wt = true then 0 else 2) else plnE js ns l
set_option maxRecDepth 100000 in
set_option maxHeartbeats 4000000 in
theorem nLate_1 (ja : Option Addr) (js : List Jo) (jc : Nat) (na : Option Addr) (ns : List Ni) (nc : Nat) (a : Option Addr) (l : List Int) (ca : Nat) (b : Option Addr) (wt : List Int) (cb : Nat) (w : World) (hJ : JobsS w ja js) (hN : NightsS w na ns) (hA : IntsC w a l) (hB : IntsC w b wt) (hw : wt.length ≤ 1000) (he : (plnE js ns l == 0) = false) :
    Calls Try.prog 15 #[.slice ja js.length jc, .slice na ns.length nc, .slice a l.length ca, .slice b wt.length cb] w fun e w' => e = .returned (.tuple #[.int .i64 0, .int .i64 (plnE js ns l)]) ∧ Below w.heap.size w w' := by
  have H1 := Lib.hid (nPE_r ja js jc na ns nc a l ca w hJ hN hA)
  clear hJ hN hA hB
  generalize plnE js ns l = E at *
  go_enter Try.func15, Try.ntmps15
  go_wp2_with fail
  refine H1.out.mono ?_
  rintro e w1 ⟨rfl, hb1⟩
  clear H1
  go_wp2_with fail
  go_ret2
  exact ⟨rfl, hb1⟩
set_option maxRecDepth 100000 in
set_option maxHeartbeats 4000000 in
theorem rLate_1 (ja : Option Addr) (js : List Jo) (jc : Nat) (na : Option Addr) (ns : List Ni) (nc : Nat) (a : Option Addr) (l : List Int) (ca : Nat) (b : Option Addr) (wt : List Int) (cb : Nat) (w : World) (hJ : JobsS w ja js) (hN : NightsS w na ns) (hA : IntsC w a l) (hB : IntsC w b wt) (hw : wt.length ≤ 1000) (he : (plnE js ns l == 0) = false) :
    Calls Try.prog 16 #[.slice ja js.length jc, .slice na ns.length nc, .slice a l.length ca, .slice b wt.length cb] w fun e w' => e = .returned (.tuple #[.int .i64 0, .int .i64 (plnE js ns l)]) ∧ Below w.heap.size w w' := by
  have H1 := Lib.hid (refPlans_r ja js jc na ns nc a l ca w hJ hN hA)
  clear hJ hN hA hB
  generalize plnE js ns l = E at *
  go_enter Try.func16, Try.ntmps16
  go_wp2_with fail
  refine H1.out.mono ?_
  rintro e w1 ⟨rfl, hb1⟩
  clear H1
  go_wp2_with fail
  go_ret2
  exact ⟨rfl, hb1⟩
set_option maxRecDepth 100000 in
set_option maxHeartbeats 4000000 in
theorem nLate_2 (ja : Option Addr) (js : List Jo) (jc : Nat) (na : Option Addr) (ns : List Ni) (nc : Nat) (a : Option Addr) (l : List Int) (ca : Nat) (b : Option Addr) (wt : List Int) (cb : Nat) (w : World) (hJ : JobsS w ja js) (hN : NightsS w na ns) (hA : IntsC w a l) (hB : IntsC w b wt) (hw : wt.length ≤ 1000) (he : plnE js ns l = 0) (hl : wt.length ≠ js.length) :
    Calls Try.prog 15 #[.slice ja js.length jc, .slice na ns.length nc, .slice a l.length ca, .slice b wt.length cb] w fun e w' => e = .returned (.tuple #[.int .i64 0, .int .i64 2]) ∧ Below w.heap.size w w' := by
  have H1 := Lib.hid (nPE_r ja js jc na ns nc a l ca w hJ hN hA)
  rw [he] at H1
  have hjl := hJ.1
  have dl : ((wt.length : Int) != (js.length : Int)) = true := by simp; omega
  clear hJ hN hA hB he hl
  go_enter Try.func15, Try.ntmps15
  go_wp2_with fail
  refine H1.out.mono ?_
  rintro e w1 ⟨rfl, hb1⟩
  clear H1
  go_wp2_with fail
  go_ret2
  exact ⟨rfl, hb1⟩
set_option maxRecDepth 100000 in
set_option maxHeartbeats 4000000 in
theorem nLate_3 (ja : Option Addr) (js : List Jo) (jc : Nat) (na : Option Addr) (ns : List Ni) (nc : Nat) (a : Option Addr) (l : List Int) (ca : Nat) (b : Option Addr) (wt : List Int) (cb : Nat) (w : World) (hJ : JobsS w ja js) (hN : NightsS w na ns) (hA : IntsC w a l) (hB : IntsC w b wt) (hw : wt.length ≤ 1000) (he : plnE js ns l = 0) (hl : wt.length = js.length) (hv : wtB wt = false) :
    Calls Try.prog 15 #[.slice ja js.length jc, .slice na ns.length nc, .slice a l.length ca, .slice b wt.length cb] w fun e w' => e = .returned (.tuple #[.int .i64 0, .int .i64 2]) ∧ Below w.heap.size w w' := by
  have H1 := Lib.hid (nPE_r ja js jc na ns nc a l ca w hJ hN hA)
  rw [he] at H1
  have hjl := hJ.1
  have dl : ((wt.length : Int) != (js.length : Int)) = false := by simp [hl]
  have H2 := Lib.hid (fun W (hW : Below w.heap.size w W) => withinN_any 0 1000000 b wt cb W (hB.below hW))
  rw [show winB 0 1000000 wt = false from hv] at H2
  clear hJ hN hA hB he hl hv
  go_enter Try.func15, Try.ntmps15
  go_wp2_with fail
  refine H1.out.mono ?_
  rintro e w1 ⟨rfl, hb1⟩
  clear H1
  go_wp2_with fail
  refine (H2.out _ hb1).mono ?_
  rintro e w2 ⟨rfl, hb2⟩
  have hb := below_onN hb1 hb2 hb1.size
  go_wp2_with fail
  go_ret2
  exact ⟨rfl, hb⟩
set_option maxRecDepth 100000 in
set_option maxHeartbeats 4000000 in
theorem nLate_4 (ja : Option Addr) (js : List Jo) (jc : Nat) (na : Option Addr) (ns : List Ni) (nc : Nat) (a : Option Addr) (l : List Int) (ca : Nat) (b : Option Addr) (wt : List Int) (cb : Nat) (w : World) (hJ : JobsS w ja js) (hN : NightsS w na ns) (hA : IntsC w a l) (hB : IntsC w b wt) (hw : wt.length ≤ 1000) (he : plnE js ns l = 0) (hl : wt.length = js.length) (hv : wtB wt = true) :
    Calls Try.prog 15 #[.slice ja js.length jc, .slice na ns.length nc, .slice a l.length ca, .slice b wt.length cb] w fun e w' => e = .returned (.tuple #[.int .i64 (lateK l wt l.length), .int .i64 0]) ∧ Below w.heap.size w w' := by
  have H1 := Lib.hid (nPE_r ja js jc na ns nc a l ca w hJ hN hA)
  have hgd := (rgt_good (plnE_ok he).2.1).1 (plnE_ok he).2.2
  rw [he] at H1
  have hjl := hJ.1
  have dl : ((wt.length : Int) != (js.length : Int)) = false := by simp [hl]
  have H2 := Lib.hid (fun W (hW : Below w.heap.size w W) => withinN_any 0 1000000 b wt cb W (hB.below hW))
  rw [show winB 0 1000000 wt = true from hv] at H2
  have hll : l.length = wt.length := by have := hgd.len; omega
  have HEn : Hid (∀ i, i < l.length → gi l i = -1 ∨ 0 ≤ gi l i) := Lib.hid fun i hi => by
    rcases good_ent hgd (i := i) (by have := hgd.len; omega) with h | ⟨m, h, _⟩
    · exact .inl h
    · exact .inr (by omega)
  have HLb : Hid (∀ k, k ≤ l.length → 0 ≤ lateK l wt k ∧ lateK l wt k ≤ 1000000 * k) := Lib.hid fun k hk => lateK_b k (fun i hi => wtB_ok hv (by omega))
  have HWb : Hid (∀ k, k < l.length → 0 ≤ gi wt k ∧ gi wt k ≤ 1000000) := Lib.hid fun k hk => wtB_ok hv (by omega)
  have HS1 : Hid (∀ k, k < l.length → gi l k = -1 → lateK l wt (k + 1) = lateK l wt k + gi wt k) := Lib.hid fun k hk e => by
    show _ + (if _ then _ else _) = _
    rw [if_pos ⟨hk, by omega⟩]
  have HS2 : Hid (∀ k, 0 ≤ gi l k → lateK l wt (k + 1) = lateK l wt k) := Lib.hid fun k e => by
    show _ + (if _ then _ else _) = _
    rw [if_neg (fun h => by omega)]; omega
  have H0 : Hid (lateK l wt 0 = 0) := Lib.hid rfl
  obtain ⟨hl64, blk, off, hadr, hc⟩ := hA
  have HC := Lib.hid hc
  have HL : Hid (0 < l.length → a = some ⟨blk, off, none⟩) := Lib.hid fun h => hadr (pos_ne (n := 0) h)
  obtain ⟨-, blk2, off2, hadr2, hc2⟩ := hB
  have HC2 := Lib.hid hc2
  have HL2 : Hid (0 < wt.length → b = some ⟨blk2, off2, none⟩) := Lib.hid fun h => hadr2 (pos_ne (n := 0) h)
  have HLL := Lib.hid hll
  clear hJ hN he hl hv hc hadr hc2 hadr2 hll hgd
  generalize lateK l wt = D at *
  go_enter Try.func15, Try.ntmps15
  go_wp2_with fail
  refine H1.out.mono ?_
  rintro e w1 ⟨rfl, hb1⟩
  clear H1
  go_wp2_with fail
  refine (H2.out _ hb1).mono ?_
  rintro e w2 ⟨rfl, hb2⟩
  have hb := below_onN hb1 hb2 hb1.size
  clear hb1 hb2 H2
  go_wp2_with fail
  go_loopw [11, 33] (fun v i wr => ∃ k : Nat, k ≤ l.length ∧ i = .int .i64 k ∧ v = .int .i64 (D k) ∧ Below w.heap.size w wr) (fun _ i _ => l.length - (intOf i).toNat)
  case atStart => exact ⟨0, Nat.zero_le _, rfl, by rw [H0.out], hb⟩
  case round =>
    obtain ⟨k, hk, rfl, rfl, hb⟩ := hrel
    obtain ⟨b0, b1⟩ := HLb.out k hk
    by_cases hlt : k < l.length
    · obtain rfl := HL.out (by omega)
      have hkw : k < wt.length := by have := HLL.out; omega
      obtain rfl := HL2.out (by omega)
      have c0 := cell_below (HC.out k hlt) hb
      have c1 := cell_below (HC2.out k hkw) hb
      obtain ⟨v0, v1⟩ := HWb.out k hlt
      have HS1k := Lib.hid (HS1.out k hlt)
      have HS2k := Lib.hid (HS2.out k)
      have hen := HEn.out k hlt
      clear HLb HC HC2 HL HL2 HWb HS1 HS2 HEn H0
      generalize gi wt k = y at *
      generalize gi l k = z at *
      by_cases hz : z = -1
      · have dz : (z == -1) = true := by simp [hz]
        have hs := Lib.hid (HS1k.out hz)
        have hwr : IntKind.i64.wrap (D k + y) = D k + y := IntWalk.i64_in _ (by omega)
        clear HS1k HS2k hz hen
        go_wp2_with fail
        go_roundw
        case rel => exact ⟨k + 1, by omega, by go_num, by rw [hs.out], hb⟩
        case measure => simp [intOf]; omega
      · have dz : (z == -1) = false := beq_false_of_ne hz
        have hs := Lib.hid (HS2k.out (by omega))
        clear HS1k HS2k hz hen
        go_wp2_with fail
        go_roundw
        case rel => exact ⟨k + 1, by omega, by go_num, by rw [hs.out], hb⟩
        case measure => simp [intOf]; omega
    · obtain rfl : k = l.length := by omega
      go_wp2_with fail
      go_ret2
      exact ⟨rfl, hb⟩
set_option maxRecDepth 100000 in
set_option maxHeartbeats 4000000 in
theorem rLate_2 (ja : Option Addr) (js : List Jo) (jc : Nat) (na : Option Addr) (ns : List Ni) (nc : Nat) (a : Option Addr) (l : List Int) (ca : Nat) (b : Option Addr) (wt : List Int) (cb : Nat) (w : World) (hJ : JobsS w ja js) (hN : NightsS w na ns) (hA : IntsC w a l) (hB : IntsC w b wt) (hw : wt.length ≤ 1000) (he : plnE js ns l = 0) :
    Calls Try.prog 16 #[.slice ja js.length jc, .slice na ns.length nc, .slice a l.length ca, .slice b wt.length cb] w fun e w' => e = .returned (.tuple #[.int .i64 (laV js ns l wt), .int .i64 (laE js ns l wt)]) ∧ Below w.heap.size w w' := by
  have H1 := Lib.hid (refPlans_r ja js jc na ns nc a l ca w hJ hN hA)
  have hgd := (rgt_good (plnE_ok he).2.1).1 (plnE_ok he).2.2
  rw [he] at H1
  have hjl := hJ.1
  have hll : l.length = js.length := hgd.len
  have hj60 := jobs_small (plnE_ok he).1
  have HLb : Hid (∀ k, (∀ i, i < k → btw (gi wt i) 0 1000000 = true) → 0 ≤ lateK l wt k ∧ lateK l wt k ≤ 1000000 * k) := Lib.hid fun k hk => lateK_b k (fun i hi => (btw_iff _ _ _).1 (hk i hi))
  have HS1 : Hid (∀ k, k < l.length → gi l k < 0 → lateK l wt (k + 1) = lateK l wt k + gi wt k) := Lib.hid fun k hk e => by
    show _ + (if _ then _ else _) = _
    rw [if_pos ⟨hk, e⟩]
  have HS2 : Hid (∀ k, ¬ (k < l.length ∧ gi l k < 0) → lateK l wt (k + 1) = lateK l wt k) := Lib.hid fun k e => by
    show _ + (if _ then _ else _) = _
    rw [if_neg e]; omega
  have H0 : Hid (lateK l wt 0 = 0) := Lib.hid rfl
  have HBad : Hid (∀ k, k < wt.length → btw (gi wt k) 0 1000000 = false → laV js ns l wt = 0 ∧ laE js ns l wt = 2) := Lib.hid fun k hk h => by
    have hb := wtB_bad hk h
    unfold laV laE
    rw [if_pos he, if_neg (fun h => by rw [hb] at h; cases h.2.2), if_neg (fun h => by rw [hb] at h; cases h.2)]
    exact ⟨rfl, rfl⟩
  have HLen : Hid (wt.length ≠ js.length → laV js ns l wt = 0 ∧ laE js ns l wt = 2) := Lib.hid fun h => by
    unfold laV laE
    rw [if_pos he, if_neg (fun hh => h hh.2.1), if_neg (fun hh => h hh.1)]
    exact ⟨rfl, rfl⟩
  have HGd : Hid ((∀ k, k < wt.length → btw (gi wt k) 0 1000000 = true) → wt.length = js.length → laV js ns l wt = lateK l wt wt.length ∧ laE js ns l wt = 0) := Lib.hid fun h h2 => by
    have hb := wtB_all h
    unfold laV laE
    rw [if_pos he, if_pos ⟨he, h2, hb⟩, if_pos ⟨h2, hb⟩, show l.length = wt.length by omega]
    exact ⟨rfl, rfl⟩
  obtain ⟨hl64, blk, off, hadr, hc⟩ := hA
  have HC := Lib.hid hc
  have HL : Hid (0 < l.length → a = some ⟨blk, off, none⟩) := Lib.hid fun h => hadr (pos_ne (n := 0) h)
  obtain ⟨-, blk2, off2, hadr2, hc2⟩ := hB
  have HC2 := Lib.hid hc2
  have HL2 : Hid (0 < wt.length → b = some ⟨blk2, off2, none⟩) := Lib.hid fun h => hadr2 (pos_ne (n := 0) h)
  have HFr := Lib.hid (fun (x : Int) (v : Bool) (h : btw x 0 1000000 = v) W => refFrom_v h W)
  clear hJ hN he hc hadr hc2 hadr2 hll hgd
  generalize lateK l wt = D at *
  generalize laV js ns l wt = LV at *
  generalize laE js ns l wt = LE at *
  go_enter Try.func16, Try.ntmps16
  go_wp2_with fail
  refine H1.out.mono ?_
  rintro e w1 ⟨rfl, hb1⟩
  clear H1
  go_wp2_with fail
  go_loopw [11, 12] (fun v i wr => ∃ k : Nat, k ≤ wt.length ∧ i = .int .i64 k ∧ v = .int .i64 (D k) ∧ Below w.heap.size w wr ∧ Hid (∀ j, j < k → btw (gi wt j) 0 1000000 = true)) (fun _ i _ => wt.length - (intOf i).toNat)
  case atStart => exact ⟨0, Nat.zero_le _, rfl, by rw [H0.out], hb1, Lib.hid fun j hj => absurd hj (Nat.not_lt_zero _)⟩
  case round =>
    clear hb1
    obtain ⟨k, hk, rfl, rfl, hb, hQ⟩ := hrel
    obtain ⟨b0, b1⟩ := HLb.out k hQ.out
    by_cases hlt : k < wt.length
    · obtain rfl := HL2.out (by omega)
      have c1 := cell_below (HC2.out k hlt) hb
      have HBk := Lib.hid (HBad.out k hlt)
      have HS1k := Lib.hid (HS1.out k)
      have HS2k := Lib.hid (HS2.out k)
      have HQ1 : Hid (btw (gi wt k) 0 1000000 = true → ∀ j, j < k + 1 → btw (gi wt j) 0 1000000 = true) := Lib.hid fun h j hj => by
        by_cases e : j = k
        · subst e; exact h
        · exact hQ.out j (by omega)
      have HFk := Lib.hid (fun v h W => HFr.out (gi wt k) v h W)
      cases hv : btw (gi wt k) 0 1000000 with
      | false =>
        obtain ⟨r1, r2⟩ := HBk.out hv
        have R1 := Lib.hid r1
        have R2 := Lib.hid r2
        have HFx := Lib.hid (fun W => HFk.out false hv W)
        clear HLb HC HC2 HL HL2 HS1 HS2 H0 HBad HLen HGd HBk HS1k HS2k HQ1 HFk HFr hv r1 r2 hQ
        generalize gi wt k = y at *
        go_wp2_with fail
        refine (HFx.out _).mono ?_
        rintro e w2 ⟨rfl, rfl⟩
        go_wp2_with fail
        go_ret2
        exact ⟨by rw [R1.out, R2.out]; rfl, hb⟩
      | true =>
        obtain ⟨y0, y1⟩ := (btw_iff _ _ _).1 hv
        have HQ2 := Lib.hid (HQ1.out hv)
        have HFx := Lib.hid (fun W => HFk.out true hv W)
        by_cases hkl : k < l.length
        · obtain rfl := HL.out (by omega)
          have c0 := cell_below (HC.out k hkl) hb
          have dkl : decide (k < l.length) = true := decide_eq_true hkl
          clear HLb HC HC2 HL HL2 HS1 HS2 H0 HBad HLen HGd HBk HQ1 HFk HFr hv hQ
          generalize gi wt k = y at *
          by_cases hz : gi l k < 0
          · have hs := Lib.hid (HS1k.out hkl hz)
            have hwr : IntKind.i64.wrap (D k + y) = D k + y := IntWalk.i64_in _ (by omega)
            have dz : decide (gi l k < 0) = true := decide_eq_true hz
            clear HS1k HS2k
            generalize gi l k = z at *
            go_wp2_with fail
            refine (HFx.out _).mono ?_
            rintro e w2 ⟨rfl, rfl⟩
            go_wp2_with fail
            go_roundw
            case rel => exact ⟨k + 1, by omega, by go_num, by rw [hs.out], hb, HQ2⟩
            case measure => simp [intOf]; omega
          · have hs := Lib.hid (HS2k.out (fun h => hz h.2))
            have dz : decide (gi l k < 0) = false := decide_eq_false hz
            clear HS1k HS2k
            generalize gi l k = z at *
            go_wp2_with fail
            refine (HFx.out _).mono ?_
            rintro e w2 ⟨rfl, rfl⟩
            go_wp2_with fail
            go_roundw
            case rel => exact ⟨k + 1, by omega, by go_num, by rw [hs.out], hb, HQ2⟩
            case measure => simp [intOf]; omega
        · have hs := Lib.hid (HS2k.out (fun h => hkl h.1))
          have dkl : decide (k < l.length) = false := decide_eq_false hkl
          clear HLb HC HC2 HL HL2 HS1 HS2 H0 HBad HLen HGd HBk HQ1 HFk HFr hv hQ HS1k HS2k
          generalize gi wt k = y at *
          go_wp2_with fail
          refine (HFx.out _).mono ?_
          rintro e w2 ⟨rfl, rfl⟩
          go_wp2_with fail
          go_roundw
          case rel => exact ⟨k + 1, by omega, by go_num, by rw [hs.out], hb, HQ2⟩
          case measure => simp [intOf]; omega
    · obtain rfl : k = wt.length := by omega
      by_cases hl : wt.length = js.length
      · obtain ⟨r1, r2⟩ := HGd.out hQ.out hl
        have R1 := Lib.hid r1
        have R2 := Lib.hid r2
        have dl : ((wt.length : Int) != (js.length : Int)) = false := by simp [hl]
        clear HLb HC HC2 HL HL2 HS1 HS2 H0 HBad HLen HGd HFr hQ r1 r2 hl
        go_wp2_with fail
        go_ret2
        exact ⟨by rw [R1.out, R2.out]; rfl, hb⟩
      · obtain ⟨r1, r2⟩ := HLen.out hl
        have R1 := Lib.hid r1
        have R2 := Lib.hid r2
        have dl : ((wt.length : Int) != (js.length : Int)) = true := by simp; omega
        clear HLb HC HC2 HL HL2 HS1 HS2 H0 HBad HLen HGd HFr hQ r1 r2 hl
        go_wp2_with fail
        go_ret2
        exact ⟨by rw [R1.out, R2.out]; rfl, hb⟩
theorem nLate_r (ja : Option Addr) (js : List Jo) (jc : Nat) (na : Option Addr) (ns : List Ni) (nc : Nat) (a : Option Addr) (l : List Int) (ca : Nat) (b : Option Addr) (wt : List Int) (cb : Nat) (w : World) (hJ : JobsS w ja js) (hN : NightsS w na ns) (hA : IntsC w a l) (hB : IntsC w b wt) (hw : wt.length ≤ 1000) :
    Calls Try.prog 15 #[.slice ja js.length jc, .slice na ns.length nc, .slice a l.length ca, .slice b wt.length cb] w fun e w' => e = .returned (.tuple #[.int .i64 (laV js ns l wt), .int .i64 (laE js ns l wt)]) ∧ Below w.heap.size w w' := by
  unfold laV laE
  by_cases he : plnE js ns l = 0
  · rw [if_pos he]
    by_cases hl : wt.length = js.length
    · cases hv : wtB wt with
      | false =>
        rw [if_neg (fun h => by cases h.2.2), if_neg (fun h => by cases h.2)]
        exact nLate_3 ja js jc na ns nc a l ca b wt cb w hJ hN hA hB hw he hl hv
      | true =>
        rw [if_pos ⟨he, hl, rfl⟩, if_pos ⟨hl, rfl⟩]
        exact nLate_4 ja js jc na ns nc a l ca b wt cb w hJ hN hA hB hw he hl hv
    · rw [if_neg (fun h => hl h.2.1), if_neg (fun h => hl h.1)]
      exact nLate_2 ja js jc na ns nc a l ca b wt cb w hJ hN hA hB hw he hl
  · rw [if_neg (fun h => he h.1), if_neg he]
    exact nLate_1 ja js jc na ns nc a l ca b wt cb w hJ hN hA hB hw (beq_false_of_ne he)
theorem rLate_r (ja : Option Addr) (js : List Jo) (jc : Nat) (na : Option Addr) (ns : List Ni) (nc : Nat) (a : Option Addr) (l : List Int) (ca : Nat) (b : Option Addr) (wt : List Int) (cb : Nat) (w : World) (hJ : JobsS w ja js) (hN : NightsS w na ns) (hA : IntsC w a l) (hB : IntsC w b wt) (hw : wt.length ≤ 1000) :
    Calls Try.prog 16 #[.slice ja js.length jc, .slice na ns.length nc, .slice a l.length ca, .slice b wt.length cb] w fun e w' => e = .returned (.tuple #[.int .i64 (laV js ns l wt), .int .i64 (laE js ns l wt)]) ∧ Below w.heap.size w w' := by
  by_cases he : plnE js ns l = 0
  · exact rLate_2 ja js jc na ns nc a l ca b wt cb w hJ hN hA hB hw he
  · unfold laV laE
    rw [if_neg (fun h => he h.1), if_neg he]
    exact rLate_1 ja js jc na ns nc a l ca b wt cb w hJ hN hA hB hw (beq_false_of_ne he)
end Go.Proofs.Ytghlhjiomebmhaa

namespace Go.Proofs.Ytghlhjiomebmhaa
set_option linter.unusedVariables false
set_option linter.unusedSimpArgs false
open Go.RowKit

/-- append(row, list...): the list empty or not. -/
theorem app_ints {ops : Array Oper} {rest : List Oper} {o : Oper} {a : Act} {Q : Exit → Act → World → Prop} (w : World) (hgd : o.guard = none) (s x : Operand)
    (ho : o.op = .call { callee := .builtin .append, args := #[s, x], argTypes := #[26, 26] })
    (base : Nat) (b : Option Addr) (n c : Nat) (xs : List Value) (hs : a.eval s = .slice b n c) (hown : w.ownsRow base 3 1 (.slice b n c) n xs)
    (ax : Option Addr) (l : List Int) (cx : Nat) (hx : a.eval x = .slice ax l.length cx) (hP : IntsC w ax l) (hlen : n + l.length ≤ 100000000) (hbase : base ≤ w.heap.size)
    (h : ∀ b' c' w', w'.ownsRow base 3 1 (.slice b' (n + l.length) c') (n + l.length) (xs ++ clI l) → Below base w w' → wpList Try.prog ops Q rest (a.put o.dst (.slice b' (n + l.length) c')) w') : wpList Try.prog ops Q (o :: rest) a w := by
  obtain ⟨n0, hi, hz0, hz1, hz2⟩ := info_parts infoInt
  by_cases h0 : l.length = 0
  · have hl := List.eq_nil_of_length_eq_zero h0
    subst hl
    refine wpList_append_zero hgd s x 26 ho base 3 n0 1 undRow hi (.slice b n c) n xs hs hown ax cx hx ?_
    have := h b c w (by rw [show clI [] = [] from rfl, List.append_nil]; exact hown) (Below.refl _ _)
    exact this
  · obtain ⟨-, blk, off, hadr, hcell⟩ := hP
    obtain rfl := hadr (by rintro rfl; exact h0 rfl)
    refine wpList_append_lies w hgd s x 26 ho base 3 n0 _ 1 8 undRow hi hz0 hz1 hz2 rfl (by decide) (.slice b n c) n xs hs hown ⟨blk, off, none⟩ l.length cx (clI l) hx (by rw [clI_len]; omega) (fun j u h => ?_) (clI_one l) (by omega) (by unfold maxLen; omega) (by omega) hbase _ rfl ?_
    · have hj : j < l.length := by
        rw [← clI_len]
        rw [List.getElem?_eq_some_iff] at h
        exact h.1
      rw [clI_get l hj] at h
      cases h
      have hadd : (⟨blk, off, none⟩ : Addr).add j = ⟨blk, off + j, none⟩ := by unfold Addr.add; split <;> simp_all
      rw [hadd]
      exact hcell j hj
    · intro g cap w' h1 h2 _ _
      exact h _ _ _ h1 ((Below.refl _ _).grown h2 hbase (fun z hz => owns_blockI hown hz))
set_option maxRecDepth 100000 in
set_option maxHeartbeats 2000000 in
theorem sameInts_eq (a b : Option Addr) (l : List Int) (ca cb : Nat) (w : World) (hA : IntsC w a l) (hB : IntsC w b l) :
    Calls Try.prog 17 #[.slice a l.length ca, .slice b l.length cb] w fun e w' => e = .returned (.bool true) ∧ Below w.heap.size w w' := by
  obtain ⟨hl64, blk, off, hadr, hc⟩ := hA
  obtain ⟨-, blk2, off2, hadr2, hc2⟩ := hB
  have HC := Lib.hid hc
  have HL : Hid (0 < l.length → a = some ⟨blk, off, none⟩) := Lib.hid fun h => hadr (pos_ne (n := 0) h)
  have HC2 := Lib.hid hc2
  have HL2 : Hid (0 < l.length → b = some ⟨blk2, off2, none⟩) := Lib.hid fun h => hadr2 (pos_ne (n := 0) h)
  clear hc hadr hc2 hadr2
  go_enter Try.func17, Try.ntmps17
  go_wp2_with fail
  go_loopw [5] (fun i wr => ∃ k : Nat, k ≤ l.length ∧ i = .int .i64 k ∧ Below w.heap.size w wr) (fun i _ => l.length - (intOf i).toNat)
  case atStart => exact ⟨0, Nat.zero_le _, rfl, Below.refl _ _⟩
  case round =>
    obtain ⟨k, hk, rfl, hb⟩ := hrel
    by_cases hlt : k < l.length
    · obtain rfl := HL.out (by omega)
      obtain rfl := HL2.out (by omega)
      have c0 := cell_below (HC.out k hlt) hb
      have d0 := cell_below (HC2.out k hlt) hb
      have k1 : decide ((0 : Int) ≤ k) = true := decide_eq_true (by omega)
      have k2 : decide ((k : Int) < l.length) = true := decide_eq_true (by omega)
      clear HC HL HC2 HL2
      generalize gi l k = x at *
      go_wp2_with fail
      go_quiet (fail)
      go_wp2_with fail
      go_roundw
      case rel => exact ⟨k + 1, by omega, by go_num, below_drewN hb _⟩
      case measure => simp [intOf]; omega
    · obtain rfl : k = l.length := by omega
      go_wp2_with fail
      go_ret
      exact ⟨rfl, hb⟩
end Go.Proofs.Ytghlhjiomebmhaa

namespace Go.Proofs.Ytghlhjiomebmhaa
set_option linter.unusedVariables false
set_option linter.unusedSimpArgs false
open Go.RowKit

/-- The tour of a night, of a plan that is right; else nothing. -/
def ToP (js : List Jo) (ns : List Ni) (l : List Int) (x : Int) (T : List Int) : Prop := (plnE js ns l = 0 ∧ 0 ≤ x ∧ x < ns.length → TourP js l x T) ∧ (¬ (plnE js ns l = 0 ∧ 0 ≤ x ∧ x < ns.length) → T = [])
def toE (js : List Jo) (ns : List Ni) (l : List Int) (x : Int) : Int := if plnE js ns l = 0 then (if 0 ≤ x ∧ x < ns.length then 0 else 2) else plnE js ns l
theorem toP_unique {js : List Jo} {ns : List Ni} {l : List Int} {x : Int} {T T' : List Int} (h : ToP js ns l x T) (h' : ToP js ns l x T') : T = T' := by
  by_cases c : plnE js ns l = 0 ∧ 0 ≤ x ∧ x < ns.length
  · exact tour_unique (h.1 c) (h'.1 c)
  · rw [h.2 c, h'.2 c]
def ToE (js : List Jo) (ns : List Ni) (l : List Int) (x : Int) (w : World) (e : Ending) (w' : World) : Prop :=
  ∃ (T : List Int) (a : Option Addr) (c : Nat), e = .returned (.tuple #[.slice a T.length c, .int .i64 (farL js T), .int .i64 (toE js ns l x)]) ∧ IntsC w' a T ∧ ToP js ns l x T ∧ Below w.heap.size w w'
theorem nTour_r (ja : Option Addr) (js : List Jo) (jc : Nat) (na : Option Addr) (ns : List Ni) (nc : Nat) (a : Option Addr) (l : List Int) (ca : Nat) (x : Int) (w : World) (hJ : JobsS w ja js) (hN : NightsS w na ns) (hA : IntsC w a l) (h30 : js.length < 40) :
    Calls Try.prog 13 #[.slice ja js.length jc, .slice na ns.length nc, .slice a l.length ca, .int .i64 x] w fun e w' => ToE js ns l x w e w' := by
  by_cases he : plnE js ns l = 0
  · by_cases hx : 0 ≤ x ∧ x < ns.length
    · refine (tour_3 ja js jc na ns nc a l ca x w hJ hN hA he hx (by have := (plnB_iff.1 (plnE_ok he).2.1).1; omega)).mono ?_
      rintro e w' ⟨T, a2, c2, rfl, h1, h2, h3⟩
      exact ⟨T, a2, c2, by unfold toE; rw [if_pos he, if_pos hx], h1, ⟨fun _ => h2, fun h => absurd ⟨he, hx⟩ h⟩, h3⟩
    · refine (tour_2 ja js jc na ns nc a l ca x w hJ hN hA he hx).mono ?_
      rintro e w' ⟨rfl, h3⟩
      exact ⟨[], none, 0, by unfold toE; rw [if_pos he, if_neg hx]; rfl, intsC_nil2 _, ⟨fun h => absurd h.2 hx, fun _ => rfl⟩, h3⟩
  · refine (tour_1 ja js jc na ns nc a l ca x w hJ hN hA (beq_false_of_ne he)).mono ?_
    rintro e w' ⟨rfl, h3⟩
    exact ⟨[], none, 0, by unfold toE; rw [if_neg he]; rfl, intsC_nil2 _, ⟨fun h => absurd h.1 he, fun _ => rfl⟩, h3⟩
theorem rTour_r (ja : Option Addr) (js : List Jo) (jc : Nat) (na : Option Addr) (ns : List Ni) (nc : Nat) (a : Option Addr) (l : List Int) (ca : Nat) (x : Int) (w : World) (hJ : JobsS w ja js) (hN : NightsS w na ns) (hA : IntsC w a l) :
    Calls Try.prog 14 #[.slice ja js.length jc, .slice na ns.length nc, .slice a l.length ca, .int .i64 x] w fun e w' => ToE js ns l x w e w' := by
  by_cases he : plnE js ns l = 0
  · by_cases hx : 0 ≤ x ∧ x < ns.length
    · refine (rtour_3 ja js jc na ns nc a l ca x w hJ hN hA he hx).mono ?_
      rintro e w' ⟨T, a2, c2, rfl, h1, h2, h3⟩
      exact ⟨T, a2, c2, by unfold toE; rw [if_pos he, if_pos hx], h1, ⟨fun _ => h2, fun h => absurd ⟨he, hx⟩ h⟩, h3⟩
    · refine (rtour_2 ja js jc na ns nc a l ca x w hJ hN hA he hx).mono ?_
      rintro e w' ⟨rfl, h3⟩
      exact ⟨[], none, 0, by unfold toE; rw [if_pos he, if_neg hx]; rfl, intsC_nil2 _, ⟨fun h => absurd h.2 hx, fun _ => rfl⟩, h3⟩
  · refine (rtour_1 ja js jc na ns nc a l ca x w hJ hN hA (beq_false_of_ne he)).mono ?_
    rintro e w' ⟨rfl, h3⟩
    exact ⟨[], none, 0, by unfold toE; rw [if_neg he]; rfl, intsC_nil2 _, ⟨fun h => absurd h.1 he, fun _ => rfl⟩, h3⟩
set_option maxRecDepth 100000 in
set_option maxHeartbeats 2000000 in
theorem nightRight_a (ja : Option Addr) (js : List Jo) (jc : Nat) (na : Option Addr) (ns : List Ni) (nc : Nat) (a : Option Addr) (l : List Int) (ca : Nat) (x : Int) (b : Option Addr) (wt : List Int) (cb : Nat) (w : World) (hJ : JobsS w ja js) (hN : NightsS w na ns) (hA : IntsC w a l) (hB : IntsC w b wt) (h0 : wideB js.length ns.length 30 30 = true) :
    Calls Try.prog 3 #[.agg #[.slice ja js.length jc, .slice na ns.length nc], .agg #[.slice a l.length ca, .int .i64 x, .slice b wt.length cb]] w fun e w' => e = .returned (.bool true) ∧ Below w.heap.size w w' := by
  have HA := Lib.hid (fun W => awake_any W)
  have hjl := hJ.1
  have hal := hA.1
  have hbl := hB.1
  have HW := Lib.hid (fun W => wide_v ja js.length jc na ns.length nc 30 30 W h0)
  clear h0
  obtain ⟨wB, hwB⟩ : ∃ wB, (w.alloc (.cells #[.slice ja js.length jc, .slice na ns.length nc] 25)).alloc (.cells #[.slice a l.length ca, .int .i64 x, .slice b wt.length cb] 28) = wB := ⟨_, rfl⟩
  have hb : Below w.heap.size w wB := by rw [← hwB]; exact ((Below.refl _ _).alloc (Nat.le_refl _) _).alloc (by simp) _
  have p0 : wB.cell? ⟨w.heap.size, 0, none⟩ = some (.slice ja js.length jc) := by rw [← hwB]; simp [go_sem]
  have p1 : wB.cell? ⟨w.heap.size, 1, none⟩ = some (.slice na ns.length nc) := by rw [← hwB]; simp [go_sem]
  have q0 : wB.cell? ⟨w.heap.size + 1, 0, none⟩ = some (.slice a l.length ca) := by rw [← hwB]; simp [go_sem]
  have q1 : wB.cell? ⟨w.heap.size + 1, 1, none⟩ = some (.int .i64 x) := by rw [← hwB]; simp [go_sem]
  have q2 : wB.cell? ⟨w.heap.size + 1, 2, none⟩ = some (.slice b wt.length cb) := by rw [← hwB]; simp [go_sem]
  clear hJ hN hA hB
  go_enter Try.func3, Try.ntmps3
  go_wp2_with fail
  refine (HW.out _).mono ?_
  rintro e w1 ⟨rfl, hbx⟩
  have p0 := cell_below p0 hbx
  have p1 := cell_below p1 hbx
  have q0 := cell_below q0 hbx
  have q1 := cell_below q1 hbx
  have q2 := cell_below q2 hbx
  have hb := below_onN hb hbx hb.size
  clear hbx
  go_wp2_with fail
  refine (HA.out _).mono ?_
  rintro e wz ⟨rfl, hbz⟩
  go_wp2_with fail
  go_ret
  exact ⟨rfl, below_onN hb hbz hb.size⟩
set_option maxRecDepth 100000 in
set_option maxHeartbeats 2000000 in
theorem nightRight_b (ja : Option Addr) (js : List Jo) (jc : Nat) (na : Option Addr) (ns : List Ni) (nc : Nat) (a : Option Addr) (l : List Int) (ca : Nat) (x : Int) (b : Option Addr) (wt : List Int) (cb : Nat) (w : World) (hJ : JobsS w ja js) (hN : NightsS w na ns) (hA : IntsC w a l) (hB : IntsC w b wt) (h0 : wideB js.length ns.length 30 30 = false) (h1 : 60 < l.length) :
    Calls Try.prog 3 #[.agg #[.slice ja js.length jc, .slice na ns.length nc], .agg #[.slice a l.length ca, .int .i64 x, .slice b wt.length cb]] w fun e w' => e = .returned (.bool true) ∧ Below w.heap.size w w' := by
  have HA := Lib.hid (fun W => awake_any W)
  have hjl := hJ.1
  have hal := hA.1
  have hbl := hB.1
  have HW := Lib.hid (fun W => wide_v ja js.length jc na ns.length nc 30 30 W h0)
  clear h0
  have g1 : decide ((60 : Int) < l.length) = true := decide_eq_true (by omega)
  obtain ⟨wB, hwB⟩ : ∃ wB, (w.alloc (.cells #[.slice ja js.length jc, .slice na ns.length nc] 25)).alloc (.cells #[.slice a l.length ca, .int .i64 x, .slice b wt.length cb] 28) = wB := ⟨_, rfl⟩
  have hb : Below w.heap.size w wB := by rw [← hwB]; exact ((Below.refl _ _).alloc (Nat.le_refl _) _).alloc (by simp) _
  have p0 : wB.cell? ⟨w.heap.size, 0, none⟩ = some (.slice ja js.length jc) := by rw [← hwB]; simp [go_sem]
  have p1 : wB.cell? ⟨w.heap.size, 1, none⟩ = some (.slice na ns.length nc) := by rw [← hwB]; simp [go_sem]
  have q0 : wB.cell? ⟨w.heap.size + 1, 0, none⟩ = some (.slice a l.length ca) := by rw [← hwB]; simp [go_sem]
  have q1 : wB.cell? ⟨w.heap.size + 1, 1, none⟩ = some (.int .i64 x) := by rw [← hwB]; simp [go_sem]
  have q2 : wB.cell? ⟨w.heap.size + 1, 2, none⟩ = some (.slice b wt.length cb) := by rw [← hwB]; simp [go_sem]
  clear hJ hN hA hB
  go_enter Try.func3, Try.ntmps3
  go_wp2_with fail
  refine (HW.out _).mono ?_
  rintro e w1 ⟨rfl, hbx⟩
  have p0 := cell_below p0 hbx
  have p1 := cell_below p1 hbx
  have q0 := cell_below q0 hbx
  have q1 := cell_below q1 hbx
  have q2 := cell_below q2 hbx
  have hb := below_onN hb hbx hb.size
  clear hbx
  go_wp2_with fail
  refine (HA.out _).mono ?_
  rintro e wz ⟨rfl, hbz⟩
  go_wp2_with fail
  go_ret
  exact ⟨rfl, below_onN hb hbz hb.size⟩
set_option maxRecDepth 100000 in
set_option maxHeartbeats 2000000 in
theorem nightRight_c (ja : Option Addr) (js : List Jo) (jc : Nat) (na : Option Addr) (ns : List Ni) (nc : Nat) (a : Option Addr) (l : List Int) (ca : Nat) (x : Int) (b : Option Addr) (wt : List Int) (cb : Nat) (w : World) (hJ : JobsS w ja js) (hN : NightsS w na ns) (hA : IntsC w a l) (hB : IntsC w b wt) (h0 : wideB js.length ns.length 30 30 = false) (h1 : ¬ 60 < l.length) (h2 : 60 < wt.length) :
    Calls Try.prog 3 #[.agg #[.slice ja js.length jc, .slice na ns.length nc], .agg #[.slice a l.length ca, .int .i64 x, .slice b wt.length cb]] w fun e w' => e = .returned (.bool true) ∧ Below w.heap.size w w' := by
  have HA := Lib.hid (fun W => awake_any W)
  have hjl := hJ.1
  have hal := hA.1
  have hbl := hB.1
  have HW := Lib.hid (fun W => wide_v ja js.length jc na ns.length nc 30 30 W h0)
  clear h0
  have g1 : decide ((60 : Int) < l.length) = false := decide_eq_false (by omega)
  have g2 : decide ((60 : Int) < wt.length) = true := decide_eq_true (by omega)
  obtain ⟨wB, hwB⟩ : ∃ wB, (w.alloc (.cells #[.slice ja js.length jc, .slice na ns.length nc] 25)).alloc (.cells #[.slice a l.length ca, .int .i64 x, .slice b wt.length cb] 28) = wB := ⟨_, rfl⟩
  have hb : Below w.heap.size w wB := by rw [← hwB]; exact ((Below.refl _ _).alloc (Nat.le_refl _) _).alloc (by simp) _
  have p0 : wB.cell? ⟨w.heap.size, 0, none⟩ = some (.slice ja js.length jc) := by rw [← hwB]; simp [go_sem]
  have p1 : wB.cell? ⟨w.heap.size, 1, none⟩ = some (.slice na ns.length nc) := by rw [← hwB]; simp [go_sem]
  have q0 : wB.cell? ⟨w.heap.size + 1, 0, none⟩ = some (.slice a l.length ca) := by rw [← hwB]; simp [go_sem]
  have q1 : wB.cell? ⟨w.heap.size + 1, 1, none⟩ = some (.int .i64 x) := by rw [← hwB]; simp [go_sem]
  have q2 : wB.cell? ⟨w.heap.size + 1, 2, none⟩ = some (.slice b wt.length cb) := by rw [← hwB]; simp [go_sem]
  clear hJ hN hA hB
  go_enter Try.func3, Try.ntmps3
  go_wp2_with fail
  refine (HW.out _).mono ?_
  rintro e w1 ⟨rfl, hbx⟩
  have p0 := cell_below p0 hbx
  have p1 := cell_below p1 hbx
  have q0 := cell_below q0 hbx
  have q1 := cell_below q1 hbx
  have q2 := cell_below q2 hbx
  have hb := below_onN hb hbx hb.size
  clear hbx
  go_wp2_with fail
  refine (HA.out _).mono ?_
  rintro e wz ⟨rfl, hbz⟩
  go_wp2_with fail
  go_ret
  exact ⟨rfl, below_onN hb hbz hb.size⟩
set_option maxRecDepth 100000 in
set_option maxHeartbeats 8000000 in
theorem nightRight_d (ja : Option Addr) (js : List Jo) (jc : Nat) (na : Option Addr) (ns : List Ni) (nc : Nat) (a : Option Addr) (l : List Int) (ca : Nat) (x : Int) (b : Option Addr) (wt : List Int) (cb : Nat) (w : World) (hJ : JobsS w ja js) (hN : NightsS w na ns) (hA : IntsC w a l) (hB : IntsC w b wt) (h0 : wideB js.length ns.length 30 30 = false) (h1 : ¬ 60 < l.length) (h2 : ¬ 60 < wt.length) :
    Calls Try.prog 3 #[.agg #[.slice ja js.length jc, .slice na ns.length nc], .agg #[.slice a l.length ca, .int .i64 x, .slice b wt.length cb]] w fun e w' => e = .returned (.bool true) ∧ Below w.heap.size w w' := by
  have HA := Lib.hid (fun W => awake_any W)
  have hjl := hJ.1
  have hal := hA.1
  have hbl := hB.1
  have hj30 : js.length ≤ 30 := by
    unfold wideB at h0
    simp at h0
    omega
  have HW := Lib.hid (fun W => wide_v ja js.length jc na ns.length nc 30 30 W h0)
  have g1 : decide ((60 : Int) < l.length) = false := decide_eq_false (by omega)
  have g2 : decide ((60 : Int) < wt.length) = false := decide_eq_false (by omega)
  have H1 := Lib.hid (fun W (hW : Below w.heap.size w W) => nRt_r ja js jc na ns nc a l ca W (hJ.below hW) (hN.below hW) (hA.below hW))
  have H2 := Lib.hid (fun W (hW : Below w.heap.size w W) => refRight_r ja js jc na ns nc a l ca W (hJ.below hW) (hN.below hW) (hA.below hW))
  have H3 := Lib.hid (fun W (hW : Below w.heap.size w W) => nDone_r ja js jc na ns nc a l ca W (hJ.below hW) (hN.below hW) (hA.below hW))
  have H4 := Lib.hid (fun W (hW : Below w.heap.size w W) => refDone_r ja js jc na ns nc a l ca W (hJ.below hW) (hN.below hW) (hA.below hW))
  have H5 := Lib.hid (fun W (hW : Below w.heap.size w W) => nTour_r ja js jc na ns nc a l ca x W (hJ.below hW) (hN.below hW) (hA.below hW) (by omega))
  have H6 := Lib.hid (fun W (hW : Below w.heap.size w W) => rTour_r ja js jc na ns nc a l ca x W (hJ.below hW) (hN.below hW) (hA.below hW))
  have H7 := Lib.hid (fun W (hW : Below w.heap.size w W) => nLate_r ja js jc na ns nc a l ca b wt cb W (hJ.below hW) (hN.below hW) (hA.below hW) (hB.below hW) (by omega))
  have H8 := Lib.hid (fun W (hW : Below w.heap.size w W) => rLate_r ja js jc na ns nc a l ca b wt cb W (hJ.below hW) (hN.below hW) (hA.below hW) (hB.below hW) (by omega))
  clear h0
  generalize rtV js ns l = R1 at *
  generalize rtE js ns l = R2 at *
  generalize doV js ns l = R3 at *
  generalize laV js ns l wt = R5 at *
  generalize laE js ns l wt = R6 at *
  generalize toE js ns l x = R7 at *
  obtain ⟨wB, hwB⟩ : ∃ wB, (w.alloc (.cells #[.slice ja js.length jc, .slice na ns.length nc] 25)).alloc (.cells #[.slice a l.length ca, .int .i64 x, .slice b wt.length cb] 28) = wB := ⟨_, rfl⟩
  have hb : Below w.heap.size w wB := by rw [← hwB]; exact ((Below.refl _ _).alloc (Nat.le_refl _) _).alloc (by simp) _
  have p0 : wB.cell? ⟨w.heap.size, 0, none⟩ = some (.slice ja js.length jc) := by rw [← hwB]; simp [go_sem]
  have p1 : wB.cell? ⟨w.heap.size, 1, none⟩ = some (.slice na ns.length nc) := by rw [← hwB]; simp [go_sem]
  have q0 : wB.cell? ⟨w.heap.size + 1, 0, none⟩ = some (.slice a l.length ca) := by rw [← hwB]; simp [go_sem]
  have q1 : wB.cell? ⟨w.heap.size + 1, 1, none⟩ = some (.int .i64 x) := by rw [← hwB]; simp [go_sem]
  have q2 : wB.cell? ⟨w.heap.size + 1, 2, none⟩ = some (.slice b wt.length cb) := by rw [← hwB]; simp [go_sem]
  clear hJ hN hA hB
  go_enter Try.func3, Try.ntmps3
  go_wp2_with fail
  refine (HW.out _).mono ?_
  rintro e w1 ⟨rfl, hbx⟩
  have p0 := cell_below p0 hbx
  have p1 := cell_below p1 hbx
  have q0 := cell_below q0 hbx
  have q1 := cell_below q1 hbx
  have q2 := cell_below q2 hbx
  have hb := below_onN hb hbx hb.size
  clear hbx
  go_wp2_with fail
  refine (H1.out _ hb).mono ?_
  rintro e w2 ⟨rfl, hbx⟩
  have p0 := cell_below p0 hbx
  have p1 := cell_below p1 hbx
  have q0 := cell_below q0 hbx
  have q1 := cell_below q1 hbx
  have q2 := cell_below q2 hbx
  have hb := below_onN hb hbx hb.size
  clear hbx
  go_wp2_with fail
  refine (H2.out _ hb).mono ?_
  rintro e w3 ⟨rfl, hbx⟩
  have p0 := cell_below p0 hbx
  have p1 := cell_below p1 hbx
  have q0 := cell_below q0 hbx
  have q1 := cell_below q1 hbx
  have q2 := cell_below q2 hbx
  have hb := below_onN hb hbx hb.size
  clear hbx
  go_wp2_with fail
  refine (H3.out _ hb).mono ?_
  rintro e w4 ⟨rfl, hbx⟩
  have p0 := cell_below p0 hbx
  have p1 := cell_below p1 hbx
  have q0 := cell_below q0 hbx
  have q1 := cell_below q1 hbx
  have q2 := cell_below q2 hbx
  have hb := below_onN hb hbx hb.size
  clear hbx
  go_wp2_with fail
  refine (H4.out _ hb).mono ?_
  rintro e w5 ⟨rfl, hbx⟩
  have p0 := cell_below p0 hbx
  have p1 := cell_below p1 hbx
  have q0 := cell_below q0 hbx
  have q1 := cell_below q1 hbx
  have q2 := cell_below q2 hbx
  have hb := below_onN hb hbx hb.size
  clear hbx
  go_wp2_with fail
  refine (H5.out _ hb).mono ?_
  rintro e w6 ⟨T1, a1, c1, rfl, t1, u1, hbx⟩
  have p0 := cell_below p0 hbx
  have p1 := cell_below p1 hbx
  have q0 := cell_below q0 hbx
  have q1 := cell_below q1 hbx
  have q2 := cell_below q2 hbx
  have hb := below_onN hb hbx hb.size
  clear hbx
  have T1x := Lib.hid t1
  have U1 := Lib.hid u1
  clear t1 u1
  go_wp2_with fail
  refine (H6.out _ hb).mono ?_
  rintro e w7 ⟨T2, a2, c2, rfl, t2, u2, hbx⟩
  obtain rfl := toP_unique U1.out u2
  have T1y := Lib.hid (T1x.out.below hbx)
  have T2x := Lib.hid t2
  have p0 := cell_below p0 hbx
  have p1 := cell_below p1 hbx
  have q0 := cell_below q0 hbx
  have q1 := cell_below q1 hbx
  have q2 := cell_below q2 hbx
  have hb := below_onN hb hbx hb.size
  clear hbx
  clear t2 u2 T1x U1
  go_wp2_with fail
  refine (H7.out _ hb).mono ?_
  rintro e w8 ⟨rfl, hbx⟩
  have T1z := Lib.hid (T1y.out.below hbx)
  have T2y := Lib.hid (T2x.out.below hbx)
  have p0 := cell_below p0 hbx
  have p1 := cell_below p1 hbx
  have q0 := cell_below q0 hbx
  have q1 := cell_below q1 hbx
  have q2 := cell_below q2 hbx
  have hb := below_onN hb hbx hb.size
  clear hbx
  clear T1y T2x
  go_wp2_with fail
  refine (H8.out _ hb).mono ?_
  rintro e w9 ⟨rfl, hbx⟩
  have HSm := Lib.hid (sameInts_eq a1 a2 T1 c1 c2 w9 (T1z.out.below hbx) (T2y.out.below hbx))
  have p0 := cell_below p0 hbx
  have p1 := cell_below p1 hbx
  have q0 := cell_below q0 hbx
  have q1 := cell_below q1 hbx
  have q2 := cell_below q2 hbx
  have hb := below_onN hb hbx hb.size
  clear hbx
  clear T1z T2y H1 H2 H3 H4 H5 H6 H7 H8 HW p0 p1 q0 q1 q2
  go_wp2_with fail
  refine HSm.out.mono ?_
  rintro e w10 ⟨rfl, hbx⟩
  have hb := below_onN hb hbx hb.size
  clear hbx
  go_wp2_with fail
  refine (HA.out _).mono ?_
  rintro e wz ⟨rfl, hbz⟩
  go_wp2_with fail
  go_ret
  exact ⟨rfl, below_onN hb hbz hb.size⟩
theorem nightRight_any (ja : Option Addr) (js : List Jo) (jc : Nat) (na : Option Addr) (ns : List Ni) (nc : Nat) (a : Option Addr) (l : List Int) (ca : Nat) (x : Int) (b : Option Addr) (wt : List Int) (cb : Nat) (w : World) (hJ : JobsS w ja js) (hN : NightsS w na ns) (hA : IntsC w a l) (hB : IntsC w b wt) :
    Calls Try.prog 3 #[.agg #[.slice ja js.length jc, .slice na ns.length nc], .agg #[.slice a l.length ca, .int .i64 x, .slice b wt.length cb]] w fun e w' => e = .returned (.bool true) ∧ Below w.heap.size w w' := by
  cases h0 : wideB js.length ns.length 30 30 with
  | true => exact nightRight_a ja js jc na ns nc a l ca x b wt cb w hJ hN hA hB h0
  | false =>
    by_cases h1 : 60 < l.length
    · exact nightRight_b ja js jc na ns nc a l ca x b wt cb w hJ hN hA hB h0 h1
    · by_cases h2 : 60 < wt.length
      · exact nightRight_c ja js jc na ns nc a l ca x b wt cb w hJ hN hA hB h0 h1 h2
      · exact nightRight_d ja js jc na ns nc a l ca x b wt cb w hJ hN hA hB h0 h1 h2
end Go.Proofs.Ytghlhjiomebmhaa

namespace Go.Proofs.Ytghlhjiomebmhaa
set_option linter.unusedVariables false
set_option linter.unusedSimpArgs false
open Go.RowKit Go.ChangeShapes Go.WideShapes Go.ChangeAt
set_option maxRecDepth 100000

theorem choose_ltN {α : Type} {n : Nat} (d : α) {p : Nat → α → Prop} (h : ∀ i, i < n → ∃ x, p i x) : ∃ f : Nat → α, ∀ i, i < n → p i (f i) := by
  classical
  exact ⟨fun i => if hi : i < n then (h i hi).choose else d, fun i hi => by simp only [hi, dif_pos]; exact (h i hi).choose_spec⟩
theorem trod_struct8 {H : Type} {enc : TypeId × Value → H} {P : Program} {w : World} {base : Nat} {spare : Nat → Bool} {held : Bool} {t : TypeId} {f0 f1 f2 f3 f4 f5 f6 f7 : Field} {fuel : Nat} {cs : List Value} {x : DataW H × List MemPlace} (ht : P.underlying t = some (.struct #[f0, f1, f2, f3, f4, f5, f6, f7])) (h : DataW.trod enc P w base spare held fuel t cs = some x) :
    ∃ y0 y1 y2 y3 y4 y5 y6 y7 n, DataW.trod enc P w base spare held n f0.type ((cs.drop f0.offset).take (P.cellsOf f0.type)) = some y0 ∧ DataW.trod enc P w base spare held n f1.type ((cs.drop f1.offset).take (P.cellsOf f1.type)) = some y1 ∧
      DataW.trod enc P w base spare held n f2.type ((cs.drop f2.offset).take (P.cellsOf f2.type)) = some y2 ∧ DataW.trod enc P w base spare held n f3.type ((cs.drop f3.offset).take (P.cellsOf f3.type)) = some y3 ∧
      DataW.trod enc P w base spare held n f4.type ((cs.drop f4.offset).take (P.cellsOf f4.type)) = some y4 ∧ DataW.trod enc P w base spare held n f5.type ((cs.drop f5.offset).take (P.cellsOf f5.type)) = some y5 ∧
      DataW.trod enc P w base spare held n f6.type ((cs.drop f6.offset).take (P.cellsOf f6.type)) = some y6 ∧ DataW.trod enc P w base spare held n f7.type ((cs.drop f7.offset).take (P.cellsOf f7.type)) = some y7 := by
  obtain ⟨xs, n, _, rfl, hl, hlen, hf⟩ := DataW.trod_struct ht h
  match xs, hlen with
  | [y0, y1, y2, y3, y4, y5, y6, y7], _ => exact ⟨y0, y1, y2, y3, y4, y5, y6, y7, n, by simpa using hf 0 f0 rfl, by simpa using hf 1 f1 rfl, by simpa using hf 2 f2 rfl, by simpa using hf 3 f3 rfl, by simpa using hf 4 f4 rfl, by simpa using hf 5 f5 rfl, by simpa using hf 6 f6 rfl, by simpa using hf 7 f7 rfl⟩
section
variable {H : Type} {enc : TypeId × Value → H} {W : World} {base : Nat} {sp : Nat → Bool} {held : Bool}
theorem gj_map (f : Nat → Jo) {n i : Nat} (h : i < n) : gj ((List.range n).map f) i = f i := by
  unfold gj; rw [List.getD_eq_getElem?_getD, List.getElem?_map, List.getElem?_range h]; rfl
theorem open_jobs {fuel : Nat} {v : Value} {y : DataW H × List MemPlace} (h : DataW.trod enc Try.prog W base sp held fuel 22 [v] = some y) :
    ∃ (a : Option Addr) (l : List Jo) (cap : Nat), v = .slice a l.length cap ∧ JobsS W a l := by
  have hC : Try.prog.cellsOf 43 = 8 := by kernel_rfl
  rcases Go.Deep.open_slice Try.underlying22 h with ⟨hcs, _⟩ | ⟨a, len, cap, m, n, D, Pl, hcs, hb, hl, hm, hmm, hx, hi⟩
  · obtain rfl : v = .slice none 0 0 := by simpa using hcs
    exact ⟨none, [], 0, rfl, ⟨by simp, 0, 0, (fun h => absurd rfl h), fun i hi => absurd hi (Nat.not_lt_zero _)⟩⟩
  · obtain rfl : v = .slice (some a) len cap := by simpa using hcs
    have hlm : len ≤ m := by rw [hmm]; split <;> omega
    rw [hC] at hi
    have key0 : ∀ i, i < len → ∃ x : Jo, W.cell? ((a.add (i * 8)).add 0) = some (.int .i64 x.n) ∧ W.cell? ((a.add (i * 8)).add 1) = some (.int .i64 x.r) ∧ W.cell? ((a.add (i * 8)).add 2) = some (.int .i64 x.c) ∧ W.cell? ((a.add (i * 8)).add 3) = some (.int .i64 x.f) ∧ W.cell? ((a.add (i * 8)).add 4) = some (.int .i64 x.l) ∧ W.cell? ((a.add (i * 8)).add 5) = some (.int .i64 x.w) ∧ W.cell? ((a.add (i * 8)).add 6) = some (.bool x.dy) ∧ W.cell? ((a.add (i * 8)).add 7) = some (.bool x.wm) := fun i hil => by
      obtain ⟨cs, hc, htr⟩ := hi i (by omega)
      obtain ⟨hcl, _, hat⟩ := World.cells?_some hc
      match cs, hcl with
      | [c0, c1, c2, c3, c4, c5, c6, c7], _ =>
        obtain ⟨y0, y1, y2, y3, y4, y5, y6, y7, n', g0, g1, g2, g3, g4, g5, g6, g7⟩ := trod_struct8 Try.underlying43 htr
        obtain ⟨z0, rfl, b0⟩ := part_int rfl (show DataW.trod enc Try.prog W base sp held n' 3 [c0] = some y0 from g0)
        obtain ⟨z1, rfl, b1⟩ := part_int rfl (show DataW.trod enc Try.prog W base sp held n' 3 [c1] = some y1 from g1)
        obtain ⟨z2, rfl, b2⟩ := part_int rfl (show DataW.trod enc Try.prog W base sp held n' 3 [c2] = some y2 from g2)
        obtain ⟨z3, rfl, b3⟩ := part_int rfl (show DataW.trod enc Try.prog W base sp held n' 3 [c3] = some y3 from g3)
        obtain ⟨z4, rfl, b4⟩ := part_int rfl (show DataW.trod enc Try.prog W base sp held n' 3 [c4] = some y4 from g4)
        obtain ⟨z5, rfl, b5⟩ := part_int rfl (show DataW.trod enc Try.prog W base sp held n' 3 [c5] = some y5 from g5)
        obtain ⟨z6, e6, _⟩ := DataW.trod_bool Try.underlying4 (show DataW.trod enc Try.prog W base sp held n' 4 [c6] = some y6 from g6)
        obtain rfl : c6 = .bool z6 := by simpa using e6
        obtain ⟨z7, e7, _⟩ := DataW.trod_bool Try.underlying4 (show DataW.trod enc Try.prog W base sp held n' 4 [c7] = some y7 from g7)
        obtain rfl : c7 = .bool z7 := by simpa using e7
        exact ⟨⟨z0, z1, z2, z3, z4, z5, z6, z7⟩, hat 0 (by decide), hat 1 (by decide), hat 2 (by decide), hat 3 (by decide), hat 4 (by decide), hat 5 (by decide), hat 6 (by decide), hat 7 (by decide)⟩
    have hspot : 0 < len → a.spot = none := fun h0 => by
      obtain ⟨x, hc, _⟩ := key0 0 h0
      rw [show 0 * 8 = 0 from rfl, add_zero, add_zero] at hc
      exact spot_none hc
    obtain ⟨f, hf⟩ := choose_ltN (α := Jo) (n := len) ⟨0, 0, 0, 0, 0, 0, false, false⟩ (p := fun i x => W.cell? ((a.add (i * 8)).add 0) = some (.int .i64 x.n) ∧ W.cell? ((a.add (i * 8)).add 1) = some (.int .i64 x.r) ∧ W.cell? ((a.add (i * 8)).add 2) = some (.int .i64 x.c) ∧ W.cell? ((a.add (i * 8)).add 3) = some (.int .i64 x.f) ∧ W.cell? ((a.add (i * 8)).add 4) = some (.int .i64 x.l) ∧ W.cell? ((a.add (i * 8)).add 5) = some (.int .i64 x.w) ∧ W.cell? ((a.add (i * 8)).add 6) = some (.bool x.dy) ∧ W.cell? ((a.add (i * 8)).add 7) = some (.bool x.wm)) key0
    refine ⟨some a, (List.range len).map f, cap, by simp, ⟨by simp; unfold maxLen at hm; omega, a.block, a.off, ?_, ?_⟩⟩
    · intro hne
      have hp : 0 < len := by
        have := List.length_pos_iff.2 hne
        simpa using this
      rw [← addr_of (hspot hp)]
    · intro i hi
      have hi : i < len := by simpa using hi
      have hs := hspot (by omega)
      have := hf i hi
      rw [add_at hs, add_zero, add_at rfl, add_at rfl, add_at rfl, add_at rfl, add_at rfl, add_at rfl, add_at rfl] at this
      rw [gj_map f hi]
      exact this
theorem gn_map (f : Nat → Ni) {n i : Nat} (h : i < n) : gn ((List.range n).map f) i = f i := by
  unfold gn; rw [List.getD_eq_getElem?_getD, List.getElem?_map, List.getElem?_range h]; rfl
theorem open_nights {fuel : Nat} {v : Value} {y : DataW H × List MemPlace} (h : DataW.trod enc Try.prog W base sp held fuel 23 [v] = some y) :
    ∃ (a : Option Addr) (l : List Ni) (cap : Nat), v = .slice a l.length cap ∧ NightsS W a l := by
  have hC : Try.prog.cellsOf 51 = 8 := by kernel_rfl
  rcases Go.Deep.open_slice Try.underlying23 h with ⟨hcs, _⟩ | ⟨a, len, cap, m, n, D, Pl, hcs, hb, hl, hm, hmm, hx, hi⟩
  · obtain rfl : v = .slice none 0 0 := by simpa using hcs
    exact ⟨none, [], 0, rfl, ⟨by simp, 0, 0, (fun h => absurd rfl h), fun i hi => absurd hi (Nat.not_lt_zero _)⟩⟩
  · obtain rfl : v = .slice (some a) len cap := by simpa using hcs
    have hlm : len ≤ m := by rw [hmm]; split <;> omega
    rw [hC] at hi
    have key0 : ∀ i, i < len → ∃ x : Ni, W.cell? ((a.add (i * 8)).add 0) = some (.int .i64 x.d) ∧ W.cell? ((a.add (i * 8)).add 1) = some (.int .i64 x.r) ∧ W.cell? ((a.add (i * 8)).add 2) = some (.int .i64 x.f) ∧ W.cell? ((a.add (i * 8)).add 3) = some (.int .i64 x.t) ∧ W.cell? ((a.add (i * 8)).add 4) = some (.int .i64 x.w) ∧ W.cell? ((a.add (i * 8)).add 5) = some (.int .i64 x.p) ∧ W.cell? ((a.add (i * 8)).add 6) = some (.bool x.rn) ∧ W.cell? ((a.add (i * 8)).add 7) = some (.bool x.fr) := fun i hil => by
      obtain ⟨cs, hc, htr⟩ := hi i (by omega)
      obtain ⟨hcl, _, hat⟩ := World.cells?_some hc
      match cs, hcl with
      | [c0, c1, c2, c3, c4, c5, c6, c7], _ =>
        obtain ⟨y0, y1, y2, y3, y4, y5, y6, y7, n', g0, g1, g2, g3, g4, g5, g6, g7⟩ := trod_struct8 Try.underlying51 htr
        obtain ⟨z0, rfl, b0⟩ := part_int rfl (show DataW.trod enc Try.prog W base sp held n' 3 [c0] = some y0 from g0)
        obtain ⟨z1, rfl, b1⟩ := part_int rfl (show DataW.trod enc Try.prog W base sp held n' 3 [c1] = some y1 from g1)
        obtain ⟨z2, rfl, b2⟩ := part_int rfl (show DataW.trod enc Try.prog W base sp held n' 3 [c2] = some y2 from g2)
        obtain ⟨z3, rfl, b3⟩ := part_int rfl (show DataW.trod enc Try.prog W base sp held n' 3 [c3] = some y3 from g3)
        obtain ⟨z4, rfl, b4⟩ := part_int rfl (show DataW.trod enc Try.prog W base sp held n' 3 [c4] = some y4 from g4)
        obtain ⟨z5, rfl, b5⟩ := part_int rfl (show DataW.trod enc Try.prog W base sp held n' 3 [c5] = some y5 from g5)
        obtain ⟨z6, e6, _⟩ := DataW.trod_bool Try.underlying4 (show DataW.trod enc Try.prog W base sp held n' 4 [c6] = some y6 from g6)
        obtain rfl : c6 = .bool z6 := by simpa using e6
        obtain ⟨z7, e7, _⟩ := DataW.trod_bool Try.underlying4 (show DataW.trod enc Try.prog W base sp held n' 4 [c7] = some y7 from g7)
        obtain rfl : c7 = .bool z7 := by simpa using e7
        exact ⟨⟨z0, z1, z2, z3, z4, z5, z6, z7⟩, hat 0 (by decide), hat 1 (by decide), hat 2 (by decide), hat 3 (by decide), hat 4 (by decide), hat 5 (by decide), hat 6 (by decide), hat 7 (by decide)⟩
    have hspot : 0 < len → a.spot = none := fun h0 => by
      obtain ⟨x, hc, _⟩ := key0 0 h0
      rw [show 0 * 8 = 0 from rfl, add_zero, add_zero] at hc
      exact spot_none hc
    obtain ⟨f, hf⟩ := choose_ltN (α := Ni) (n := len) ⟨0, 0, 0, 0, 0, 0, false, false⟩ (p := fun i x => W.cell? ((a.add (i * 8)).add 0) = some (.int .i64 x.d) ∧ W.cell? ((a.add (i * 8)).add 1) = some (.int .i64 x.r) ∧ W.cell? ((a.add (i * 8)).add 2) = some (.int .i64 x.f) ∧ W.cell? ((a.add (i * 8)).add 3) = some (.int .i64 x.t) ∧ W.cell? ((a.add (i * 8)).add 4) = some (.int .i64 x.w) ∧ W.cell? ((a.add (i * 8)).add 5) = some (.int .i64 x.p) ∧ W.cell? ((a.add (i * 8)).add 6) = some (.bool x.rn) ∧ W.cell? ((a.add (i * 8)).add 7) = some (.bool x.fr)) key0
    refine ⟨some a, (List.range len).map f, cap, by simp, ⟨by simp; unfold maxLen at hm; omega, a.block, a.off, ?_, ?_⟩⟩
    · intro hne
      have hp : 0 < len := by
        have := List.length_pos_iff.2 hne
        simpa using this
      rw [← addr_of (hspot hp)]
    · intro i hi
      have hi : i < len := by simpa using hi
      have hs := hspot (by omega)
      have := hf i hi
      rw [add_at hs, add_zero, add_at rfl, add_at rfl, add_at rfl, add_at rfl, add_at rfl, add_at rfl, add_at rfl] at this
      rw [gn_map f hi]
      exact this
theorem open_season {v : Value} {d : DataW H} {p : List MemPlace} (hv : Value.okWide Try.prog W .any base 25 v) (h : DataW.Trod enc Try.prog W 0 sp held 25 v d p) :
    ∃ (ja : Option Addr) (js : List Jo) (jc : Nat) (na : Option Addr) (ns : List Ni) (nc : Nat), v = .agg #[.slice ja js.length jc, .slice na ns.length nc] ∧ JobsS W ja js ∧ NightsS W na ns := by
  obtain ⟨v0, v1, y0, y1, n, rfl, _, _, h0, h1⟩ := Joins.open_agg2 Try.underlying25 (by kernel_rfl) (by kernel_rfl) hv h
  obtain ⟨ja, js, jc, rfl, hJ⟩ := open_jobs (show DataW.trod enc Try.prog W 0 sp held n 22 [v0] = some y0 from h0)
  obtain ⟨na, ns, nc, rfl, hN⟩ := open_nights (show DataW.trod enc Try.prog W 0 sp held n 23 [v1] = some y1 from h1)
  exact ⟨ja, js, jc, na, ns, nc, rfl, hJ, hN⟩
end
end Go.Proofs.Ytghlhjiomebmhaa
