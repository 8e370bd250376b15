/-
  The law's right. By an AI agent.; Library functions laid at this program, in plain words. By an AI agent.; A map from ints to bools that the call itself has made, read as the set of its keys. By an AI agent.; Parts between cuts, and stretches metre by metre: one list. By an AI agent.
-/
import Derived.Test.YtjoffnbpaebgjaaGreatMgRuleMH4
import Derived.Test.YtjoffnbpaebgjaaGreatMgRuleMH7
import Derived.Test.YtjoffnbpaebgjaaGreatMgRuleMH10
import Derived.Test.YtjoffnbpaebgjaaGreatMgRuleMH11
import Derived.Deep.RegionHeld3
import Derived.Deep.DeepCutAuto
import Derived.BigQuiet
import Derived.BigRegion
import Derived.StillTailTactics
import Derived.Deep.AppendLies
import Derived.Shelf.SlIterI.Nil
import Derived.Ground.GgzProg
import Derived.Test.YtjoffnbpaebgjaaGreatProg
import Derived.Maps.OwnSet
import Derived.Maps.OwnOps
import Derived.Maps.Views
import Derived.OwnWalk
import Derived.Below
import Derived.Lib.SlKeysI

namespace Go.Proofs.YtjoffnbpaebgjaaGreat
set_option linter.unusedVariables false
set_option linter.unusedSimpArgs false
open Go.RowKit

/-- right says whether an ask has valid parts. -/
def RgtE (L : Int) (js : List Int) (l : List Sgn) (q : List Edc) (q0 q1 q2 : Int) (w : World) (e : Ending) (w' : World) : Prop :=
  ∃ b : Bool, (b = true → lstE L js l q = 0 ∧ L ≤ 200 ∧ btw q0 0 10000000 = true ∧ dirB q1 = true ∧ topB q2 = true) ∧ e = .returned (.bool b) ∧ Below w.heap.size w w'
theorem lst_zero {L : Int} {js : List Int} {l : List Sgn} {q : List Edc} (h1 : sgnsB L js l = true) (h2 : edcsB L js q = true) : lstE L js l q = 0 := by
  unfold lstE
  rw [sgns_line h1, h1, h2]
  rfl
/-- The metre of an ask, within its line. -/
theorem metre_u (L q3 : Int) (h1 : 1 ≤ L) (h2 : L ≤ 200) : ∃ U M : Int, IntKind.u64.wrap q3 = U ∧ U.tmod L = M ∧ 0 ≤ M ∧ M < L ∧ IntKind.u64.wrap L = L ∧ wrap64 M = M ∧ btw M 0 (L - 1) = true := by
  have hw : ∀ x : Int, IntKind.u64.wrap x = x % 18446744073709551616 := fun x => by
    unfold IntKind.wrap
    simp [IntKind.signed, IntKind.bits]
  have hU : 0 ≤ IntKind.u64.wrap q3 := by rw [hw]; exact Int.emod_nonneg _ (by decide)
  have hM0 : 0 ≤ (IntKind.u64.wrap q3).tmod L := Int.tmod_nonneg _ hU
  have hM1 : (IntKind.u64.wrap q3).tmod L < L := Int.tmod_lt_of_pos _ (by omega)
  refine ⟨_, _, rfl, rfl, hM0, hM1, by rw [hw]; omega, ?_, ?_⟩
  · unfold wrap64; omega
  · unfold btw; rw [decide_eq_true hM0, decide_eq_true (by omega)]; rfl
set_option linter.unnecessarySimpa false
set_option maxRecDepth 100000 in
set_option maxHeartbeats 4000000 in
theorem right_r (L : Int) (a : Option Addr) (js : List Int) (ca : Nat) (aa : Option Addr) (l : List Sgn) (cl : Nat) (ae : Option Addr) (q : List Edc) (cq : Nat) (q0 q1 q2 q3 : Int) (w : World) (hI : IntsS w a js) (hA : SgnS w aa l) (hE : EdS w ae q) : Calls Tryz.prog 17 #[.agg #[.int .i64 L, .slice a js.length ca, .slice aa l.length cl, .slice ae q.length cq, .int .i64 q0, .int .i64 q1, .int .i64 q2, .int .i64 q3]] w (RgtE L js l q q0 q1 q2 w) := by
  have HH := Lib.hid (fun W (hW : Below w.heap.size w W) => Heavy_any L a js ca aa l cl ae q cq q0 q1 q2 q3 W (hI.below hW) (hA.below hW) (hE.below hW))
  have HS := Lib.hid (fun W (hW : Below w.heap.size w W) => refValidSigns_r L a js ca aa l cl W (hI.below hW) (hA.below hW))
  have HE := Lib.hid (fun W (hW : Below w.heap.size w W) => refValidEdicts_r L a js ca ae q cq W (hI.below hW) (hE.below hW))
  have K0 := Lib.hid (fun W => hour_r q0 W)
  have K1 := Lib.hid (fun W => way_r q1 W)
  have K2 := Lib.hid (fun W => topic_r q2 W)
  clear hI hA hE
  obtain ⟨s1, h⟩ : ∃ s1, sgnsB L js l = s1 := ⟨_, rfl⟩
  rw [h] at HS
  have HS1 := Lib.hid h
  clear h
  obtain ⟨s2, h⟩ : ∃ s2, edcsB L js q = s2 := ⟨_, rfl⟩
  rw [h] at HE
  have HS2 := Lib.hid h
  clear h
  obtain ⟨s3, h⟩ : ∃ s3, btw q0 0 10000000 = s3 := ⟨_, rfl⟩
  rw [h] at K0
  have HS3 := Lib.hid h
  clear h
  obtain ⟨s4, h⟩ : ∃ s4, dirB q1 = s4 := ⟨_, rfl⟩
  rw [h] at K1
  have HS4 := Lib.hid h
  clear h
  obtain ⟨s5, h⟩ : ∃ s5, topB q2 = s5 := ⟨_, rfl⟩
  rw [h] at K2
  have HS5 := Lib.hid h
  clear h
  go_enter Tryz.func17, Tryz.ntmps17
  go_wp2_with fail
  obtain ⟨wB, hwB⟩ : ∃ wB, w.alloc (.cells #[.int .i64 L, .slice a js.length ca, .slice aa l.length cl, .slice ae q.length cq, .int .i64 q0, .int .i64 q1, .int .i64 q2, .int .i64 q3] 28) = wB := ⟨_, rfl⟩
  have hb : Below w.heap.size w wB := by rw [← hwB]; exact (Below.refl _ _).alloc (Nat.le_refl _) _
  have p0 : wB.cell? ⟨w.heap.size, 0, none⟩ = some (.int .i64 L) := by rw [← hwB]; simp [go_sem]
  have p1 : wB.cell? ⟨w.heap.size, 1, none⟩ = some (.slice a js.length ca) := by rw [← hwB]; simp [go_sem]
  have p2 : wB.cell? ⟨w.heap.size, 2, none⟩ = some (.slice aa l.length cl) := by rw [← hwB]; simp [go_sem]
  have p3 : wB.cell? ⟨w.heap.size, 3, none⟩ = some (.slice ae q.length cq) := by rw [← hwB]; simp [go_sem]
  have p4 : wB.cell? ⟨w.heap.size, 4, none⟩ = some (.int .i64 q0) := by rw [← hwB]; simp [go_sem]
  have p5 : wB.cell? ⟨w.heap.size, 5, none⟩ = some (.int .i64 q1) := by rw [← hwB]; simp [go_sem]
  have p6 : wB.cell? ⟨w.heap.size, 6, none⟩ = some (.int .i64 q2) := by rw [← hwB]; simp [go_sem]
  have p7 : wB.cell? ⟨w.heap.size, 7, none⟩ = some (.int .i64 q3) := by rw [← hwB]; simp [go_sem]
  rw [hwB]
  clear hwB
  refine (HH.out _ hb).mono ?_
  rintro e wX ⟨bv, hHv, rfl, hb1⟩
  replace p0 := cell_below p0 hb1
  replace p1 := cell_below p1 hb1
  replace p2 := cell_below p2 hb1
  replace p3 := cell_below p3 hb1
  replace p4 := cell_below p4 hb1
  replace p5 := cell_below p5 hb1
  replace p6 := cell_below p6 hb1
  replace p7 := cell_below p7 hb1
  have hbw := hb.trans (hb1.mono hb.size)
  clear HH hb1 hHv
  cases bv with
  | true =>
    go_wp2_with fail
    go_ret
    exact ⟨false, (fun h => by cases h), rfl, hbw⟩
  | false =>
    cases s1 with
    | false =>
      go_wp2_with (first | (go_at_call 36; refine (HS.out _ hbw).mono ?_; rintro e w9 ⟨rfl, hb9⟩; replace hbw := hbw.trans (hb9.mono hbw.size); replace p0 := cell_below p0 hb9; replace p1 := cell_below p1 hb9; replace p2 := cell_below p2 hb9; replace p3 := cell_below p3 hb9; replace p4 := cell_below p4 hb9; replace p5 := cell_below p5 hb9; replace p6 := cell_below p6 hb9; replace p7 := cell_below p7 hb9; clear hb9) | (go_at_call 37; refine (HE.out _ hbw).mono ?_; rintro e w9 ⟨rfl, hb9⟩; replace hbw := hbw.trans (hb9.mono hbw.size); replace p0 := cell_below p0 hb9; replace p1 := cell_below p1 hb9; replace p2 := cell_below p2 hb9; replace p3 := cell_below p3 hb9; replace p4 := cell_below p4 hb9; replace p5 := cell_below p5 hb9; replace p6 := cell_below p6 hb9; replace p7 := cell_below p7 hb9; clear hb9) | (go_at_call 40; refine (K0.out _).mono ?_; rintro e w9 ⟨rfl, rfl⟩) | (go_at_call 11; refine (K1.out _).mono ?_; rintro e w9 ⟨rfl, rfl⟩) | (go_at_call 12; refine (K2.out _).mono ?_; rintro e w9 ⟨rfl, rfl⟩))
      go_ret
      exact ⟨false, (fun h => by cases h), rfl, hbw⟩
    | true =>
      cases s2 with
      | false =>
        go_wp2_with (first | (go_at_call 36; refine (HS.out _ hbw).mono ?_; rintro e w9 ⟨rfl, hb9⟩; replace hbw := hbw.trans (hb9.mono hbw.size); replace p0 := cell_below p0 hb9; replace p1 := cell_below p1 hb9; replace p2 := cell_below p2 hb9; replace p3 := cell_below p3 hb9; replace p4 := cell_below p4 hb9; replace p5 := cell_below p5 hb9; replace p6 := cell_below p6 hb9; replace p7 := cell_below p7 hb9; clear hb9) | (go_at_call 37; refine (HE.out _ hbw).mono ?_; rintro e w9 ⟨rfl, hb9⟩; replace hbw := hbw.trans (hb9.mono hbw.size); replace p0 := cell_below p0 hb9; replace p1 := cell_below p1 hb9; replace p2 := cell_below p2 hb9; replace p3 := cell_below p3 hb9; replace p4 := cell_below p4 hb9; replace p5 := cell_below p5 hb9; replace p6 := cell_below p6 hb9; replace p7 := cell_below p7 hb9; clear hb9) | (go_at_call 40; refine (K0.out _).mono ?_; rintro e w9 ⟨rfl, rfl⟩) | (go_at_call 11; refine (K1.out _).mono ?_; rintro e w9 ⟨rfl, rfl⟩) | (go_at_call 12; refine (K2.out _).mono ?_; rintro e w9 ⟨rfl, rfl⟩))
        go_ret
        exact ⟨false, (fun h => by cases h), rfl, hbw⟩
      | true =>
        by_cases h2 : L ≤ 200
        · have d2 : decide (L ≤ 200) = true := decide_eq_true h2
          cases s3 with
          | false =>
            go_wp2_with (first | (go_at_call 36; refine (HS.out _ hbw).mono ?_; rintro e w9 ⟨rfl, hb9⟩; replace hbw := hbw.trans (hb9.mono hbw.size); replace p0 := cell_below p0 hb9; replace p1 := cell_below p1 hb9; replace p2 := cell_below p2 hb9; replace p3 := cell_below p3 hb9; replace p4 := cell_below p4 hb9; replace p5 := cell_below p5 hb9; replace p6 := cell_below p6 hb9; replace p7 := cell_below p7 hb9; clear hb9) | (go_at_call 37; refine (HE.out _ hbw).mono ?_; rintro e w9 ⟨rfl, hb9⟩; replace hbw := hbw.trans (hb9.mono hbw.size); replace p0 := cell_below p0 hb9; replace p1 := cell_below p1 hb9; replace p2 := cell_below p2 hb9; replace p3 := cell_below p3 hb9; replace p4 := cell_below p4 hb9; replace p5 := cell_below p5 hb9; replace p6 := cell_below p6 hb9; replace p7 := cell_below p7 hb9; clear hb9) | (go_at_call 40; refine (K0.out _).mono ?_; rintro e w9 ⟨rfl, rfl⟩) | (go_at_call 11; refine (K1.out _).mono ?_; rintro e w9 ⟨rfl, rfl⟩) | (go_at_call 12; refine (K2.out _).mono ?_; rintro e w9 ⟨rfl, rfl⟩))
            go_ret
            exact ⟨false, (fun h => by cases h), rfl, hbw⟩
          | true =>
            cases s4 with
            | false =>
              go_wp2_with (first | (go_at_call 36; refine (HS.out _ hbw).mono ?_; rintro e w9 ⟨rfl, hb9⟩; replace hbw := hbw.trans (hb9.mono hbw.size); replace p0 := cell_below p0 hb9; replace p1 := cell_below p1 hb9; replace p2 := cell_below p2 hb9; replace p3 := cell_below p3 hb9; replace p4 := cell_below p4 hb9; replace p5 := cell_below p5 hb9; replace p6 := cell_below p6 hb9; replace p7 := cell_below p7 hb9; clear hb9) | (go_at_call 37; refine (HE.out _ hbw).mono ?_; rintro e w9 ⟨rfl, hb9⟩; replace hbw := hbw.trans (hb9.mono hbw.size); replace p0 := cell_below p0 hb9; replace p1 := cell_below p1 hb9; replace p2 := cell_below p2 hb9; replace p3 := cell_below p3 hb9; replace p4 := cell_below p4 hb9; replace p5 := cell_below p5 hb9; replace p6 := cell_below p6 hb9; replace p7 := cell_below p7 hb9; clear hb9) | (go_at_call 40; refine (K0.out _).mono ?_; rintro e w9 ⟨rfl, rfl⟩) | (go_at_call 11; refine (K1.out _).mono ?_; rintro e w9 ⟨rfl, rfl⟩) | (go_at_call 12; refine (K2.out _).mono ?_; rintro e w9 ⟨rfl, rfl⟩))
              go_ret
              exact ⟨false, (fun h => by cases h), rfl, hbw⟩
            | true =>
              cases s5 with
              | false =>
                go_wp2_with (first | (go_at_call 36; refine (HS.out _ hbw).mono ?_; rintro e w9 ⟨rfl, hb9⟩; replace hbw := hbw.trans (hb9.mono hbw.size); replace p0 := cell_below p0 hb9; replace p1 := cell_below p1 hb9; replace p2 := cell_below p2 hb9; replace p3 := cell_below p3 hb9; replace p4 := cell_below p4 hb9; replace p5 := cell_below p5 hb9; replace p6 := cell_below p6 hb9; replace p7 := cell_below p7 hb9; clear hb9) | (go_at_call 37; refine (HE.out _ hbw).mono ?_; rintro e w9 ⟨rfl, hb9⟩; replace hbw := hbw.trans (hb9.mono hbw.size); replace p0 := cell_below p0 hb9; replace p1 := cell_below p1 hb9; replace p2 := cell_below p2 hb9; replace p3 := cell_below p3 hb9; replace p4 := cell_below p4 hb9; replace p5 := cell_below p5 hb9; replace p6 := cell_below p6 hb9; replace p7 := cell_below p7 hb9; clear hb9) | (go_at_call 40; refine (K0.out _).mono ?_; rintro e w9 ⟨rfl, rfl⟩) | (go_at_call 11; refine (K1.out _).mono ?_; rintro e w9 ⟨rfl, rfl⟩) | (go_at_call 12; refine (K2.out _).mono ?_; rintro e w9 ⟨rfl, rfl⟩))
                go_ret
                exact ⟨false, (fun h => by cases h), rfl, hbw⟩
              | true =>
                go_wp2_with (first | (go_at_call 36; refine (HS.out _ hbw).mono ?_; rintro e w9 ⟨rfl, hb9⟩; replace hbw := hbw.trans (hb9.mono hbw.size); replace p0 := cell_below p0 hb9; replace p1 := cell_below p1 hb9; replace p2 := cell_below p2 hb9; replace p3 := cell_below p3 hb9; replace p4 := cell_below p4 hb9; replace p5 := cell_below p5 hb9; replace p6 := cell_below p6 hb9; replace p7 := cell_below p7 hb9; clear hb9) | (go_at_call 37; refine (HE.out _ hbw).mono ?_; rintro e w9 ⟨rfl, hb9⟩; replace hbw := hbw.trans (hb9.mono hbw.size); replace p0 := cell_below p0 hb9; replace p1 := cell_below p1 hb9; replace p2 := cell_below p2 hb9; replace p3 := cell_below p3 hb9; replace p4 := cell_below p4 hb9; replace p5 := cell_below p5 hb9; replace p6 := cell_below p6 hb9; replace p7 := cell_below p7 hb9; clear hb9) | (go_at_call 40; refine (K0.out _).mono ?_; rintro e w9 ⟨rfl, rfl⟩) | (go_at_call 11; refine (K1.out _).mono ?_; rintro e w9 ⟨rfl, rfl⟩) | (go_at_call 12; refine (K2.out _).mono ?_; rintro e w9 ⟨rfl, rfl⟩))
                go_ret
                exact ⟨true, fun _ => ⟨lst_zero HS1.out HS2.out, h2, HS3.out, HS4.out, HS5.out⟩, rfl, hbw⟩
        · have d2 : decide (L ≤ 200) = false := decide_eq_false h2
          go_wp2_with (first | (go_at_call 36; refine (HS.out _ hbw).mono ?_; rintro e w9 ⟨rfl, hb9⟩; replace hbw := hbw.trans (hb9.mono hbw.size); replace p0 := cell_below p0 hb9; replace p1 := cell_below p1 hb9; replace p2 := cell_below p2 hb9; replace p3 := cell_below p3 hb9; replace p4 := cell_below p4 hb9; replace p5 := cell_below p5 hb9; replace p6 := cell_below p6 hb9; replace p7 := cell_below p7 hb9; clear hb9) | (go_at_call 37; refine (HE.out _ hbw).mono ?_; rintro e w9 ⟨rfl, hb9⟩; replace hbw := hbw.trans (hb9.mono hbw.size); replace p0 := cell_below p0 hb9; replace p1 := cell_below p1 hb9; replace p2 := cell_below p2 hb9; replace p3 := cell_below p3 hb9; replace p4 := cell_below p4 hb9; replace p5 := cell_below p5 hb9; replace p6 := cell_below p6 hb9; replace p7 := cell_below p7 hb9; clear hb9) | (go_at_call 40; refine (K0.out _).mono ?_; rintro e w9 ⟨rfl, rfl⟩) | (go_at_call 11; refine (K1.out _).mono ?_; rintro e w9 ⟨rfl, rfl⟩) | (go_at_call 12; refine (K2.out _).mono ?_; rintro e w9 ⟨rfl, rfl⟩))
          go_ret
          exact ⟨false, (fun h => by cases h), rfl, hbw⟩
end Go.Proofs.YtjoffnbpaebgjaaGreat

namespace Go.Proofs
open Go.Shelf
def Tryz.laysKeysI_ren : Go.Shelf.Ren := ⟨fun | 7 => 55 | 10 => 94 | n => n, fun | 23 => 105 | 26 => 3 | 3 => 4 | 28 => 108 | 0 => 0 | 27 => 107 | 33 => 38 | 4 => 4 | n => n, fun | n => n⟩
theorem Tryz.laysKeysI : Go.Proofs.SlLaysZI.n7 Tryz.prog Tryz.laysKeysI_ren := {
  mixed := by kernel_rfl
  f7 := ⟨Tryz.f55.name, by decide, Tryz.func55.trans (congrArg some (by kernel_rfl))⟩
  f10 := ⟨Tryz.f94.name, by decide, Tryz.func94.trans (congrArg some (by kernel_rfl))⟩
  t0 := Tryz.underlying0
  a0 := Tryz.isAgg0
  z0 := Tryz.sizeOf0
  v0 := Tryz.zeroValue0
  t4 := Tryz.underlying4
  a4 := Tryz.isAgg4
  z4 := Tryz.sizeOf4
  v4 := Tryz.zeroValue4
  t23 := Tryz.underlying105
  a23 := Tryz.isAgg105
  z23 := Tryz.sizeOf105
  v23 := Tryz.zeroValue105
  t26 := Tryz.underlying3
  a26 := Tryz.isAgg3
  z26 := Tryz.sizeOf3
  v26 := Tryz.zeroValue3
  t27 := Tryz.underlying107
  a27 := Tryz.isAgg107
  z27 := Tryz.sizeOf107
  v27 := Tryz.zeroValue107
  t28 := Tryz.underlying108
  a28 := Tryz.isAgg108
  z28 := Tryz.sizeOf108
  v28 := Tryz.zeroValue108
  t33 := Tryz.underlying38
  a33 := Tryz.isAgg38
  z33 := Tryz.sizeOf38
  v33 := Tryz.zeroValue38 }
def Tryz.laysSortedI_ren : Go.Shelf.Ren := ⟨fun | 6 => 54 | 8 => 92 | 9 => 93 | 11 => 124 | 13 => 78 | 12 => 125 | 23 => 116 | 24 => 117 | 14 => 141 | 15 => 142 | 16 => 143 | 17 => 144 | 18 => 145 | 19 => 146 | 20 => 147 | 21 => 148 | 22 => 149 | 25 => 154 | 26 => 137 | 27 => 138 | 28 => 155 | 29 => 156 | 30 => 118 | 31 => 158 | n => n, fun | 26 => 3 | 28 => 108 | 24 => 22 | 0 => 0 | 3 => 3 | 37 => 44 | 48 => 43 | 50 => 155 | 4 => 4 | 40 => 147 | 39 => 146 | 45 => 151 | 5 => 5 | 9 => 9 | 51 => 167 | 55 => 171 | 57 => 180 | 58 => 181 | 33 => 38 | n => n, fun | n => n⟩
theorem Tryz.laysSortedI : Go.Proofs.SlLaysZI.n6 Tryz.prog Tryz.laysSortedI_ren := {
  mixed := by kernel_rfl
  f6 := ⟨Tryz.f54.name, by decide, Tryz.func54.trans (congrArg some (by kernel_rfl))⟩
  f8 := ⟨Tryz.f92.name, by decide, Tryz.func92.trans (congrArg some (by kernel_rfl))⟩
  f11 := ⟨Tryz.f124.name, by decide, Tryz.func124.trans (congrArg some (by kernel_rfl))⟩
  t0 := Tryz.underlying0
  a0 := Tryz.isAgg0
  z0 := Tryz.sizeOf0
  v0 := Tryz.zeroValue0
  t24 := Tryz.underlying22
  a24 := Tryz.isAgg22
  z24 := Tryz.sizeOf22
  v24 := Tryz.zeroValue22
  t26 := Tryz.underlying3
  a26 := Tryz.isAgg3
  z26 := Tryz.sizeOf3
  v26 := Tryz.zeroValue3
  t28 := Tryz.underlying108
  a28 := Tryz.isAgg108
  z28 := Tryz.sizeOf108
  v28 := Tryz.zeroValue108
  i26 := by kernel_rfl }
end Go.Proofs

namespace Go.Proofs.YtjoffnbpaebgjaaGreat
set_option linter.unusedVariables false
set_option linter.unusedSimpArgs false
open Go.Maps
open Go.RowKit

/-- Block B is a map from ints to bools with the keys S, at most n entries. -/
def SetM (P : Program) (k e : TypeId) (w : World) (B n : Nat) (S : List Int) : Prop :=
  ∃ D : DataW Unit, w.ownsMap P k (plainElem P e) B n D ∧ ∀ x : Int, has D (.int .i64 x) = true ↔ x ∈ S
section
variable {P : Program} {k e t : TypeId} {w w' : World} {B n : Nat} {S : List Int}
theorem SetM.made (P : Program) (k e : TypeId) (w : World) : SetM P k e (w.alloc (.map #[] 0)) w.heap.size 0 [] :=
  ⟨.map [], World.ownsMap_made _ _ _ _, fun x => by rw [has_eq]; simp⟩
theorem SetM.same (h : SetM P k e w B n S) (hb : w'.heap[B]? = w.heap[B]?) : SetM P k e w' B n S := by
  obtain ⟨D, ⟨es, clock, h1, h2⟩, h3⟩ := h
  exact ⟨D, ⟨es, clock, hb.trans h1, h2⟩, h3⟩
theorem SetM.lt (h : SetM P k e w B n S) : B < w.heap.size := by obtain ⟨D, h1, h2⟩ := h; exact h1.lt
theorem SetM.kept {row : Option Nat} (h : SetM P k e w B n S) (hg : w.grownBy w' row) (hne : some B ≠ row) : SetM P k e w' B n S := h.same (hg.block B h.lt hne)
theorem SetM.below {C : Nat} (h : SetM P k e w B n S) (hC : B < C) (hb : Below C w w') : SetM P k e w' B n S := h.same (hb.block B hC)
theorem SetM.alloc (h : SetM P k e w B n S) (o : Obj) : SetM P k e (w.alloc o) B n S := h.below h.lt ((Below.refl _ w).alloc (Nat.le_refl _) o)
theorem SetM.mono {n' : Nat} (h : SetM P k e w B n S) (hn : n ≤ n') : SetM P k e w B n' S := by
  obtain ⟨D, ⟨es, clock, h1, h2, h3, h4⟩, h5⟩ := h
  exact ⟨D, ⟨es, clock, h1, h2, Nat.le_trans h3 hn, h4⟩, h5⟩
/-- One key more, at a step of a region that draws its order. -/
theorem step_putS {ops : Array Oper} {o : Oper} {a : Act} {K : Act → World → Prop} {Q : Exit → Act → World → Prop} {E : Prop} (hgd : o.guard = none)
    (m x v : Operand) (hop : o.op = Op.mapUpdate t m x v)
    (hm : a.eval m = .map (some B)) (h : SetM P k e w B n S) (hk : P.underlying k = some (.int .i64)) (ht : P.underlying t = some (.map k e)) (he : P.underlying e = some .bool)
    (y : Int) (b : Bool) (hx : a.eval x = .int .i64 y) (hv : a.eval v = .bool b) (hy : (Lit.int .i64 y).wf = true) (hn : n < maxLen)
    (hK : ∀ w', SetM P k e w' B (n + 1) (S ++ [y]) → w.grownBy w' (some B) → K (a.put o.dst undef) w') :
    if Region.wanted o (yielded ops a.tmps) = true then Oper.wp P o a w K Q else E := by
  have hw : Region.wanted o (yielded ops a.tmps) = true := by simp [Region.wanted, hgd]
  rw [if_pos hw]
  obtain ⟨D, h1, h2⟩ := h
  obtain ⟨w', hrun, r1, r2⟩ := h1.update (int_keyed hk) ht hn (keyOf_int_mk hk hy) (plainElem_bool (H := Unit) he b)
  unfold Oper.wp
  simp [execOp, hop, hm, hx, hv, hrun, Result.andThen]
  have htd := (h1.tidy (int_keyed hk)).isMap
  refine hK w' ⟨_, r1, fun z => ?_⟩ r2
  rw [List.mem_append, List.mem_singleton]
  by_cases e1 : z = y
  · subst e1
    rw [has_put_same htd ((int_keyed hk).key (keyOf_int_mk hk hy))]
    simp
  · rw [has_put_other (fun e2 => e1 (by cases e2; rfl)), h2]
    simp [e1]
/-- A key less. -/
theorem wpList_delS {ops : Array Oper} {rest : List Oper} {o : Oper} {a : Act} {Q : Exit → Act → World → Prop} (hg : o.guard = none) (m x : Operand) (hop : o.op = Op.call { callee := Callee.builtin Builtin.delete, args := #[m, x], argTypes := #[t, k] })
    (hm : a.eval m = .map (some B)) (h : SetM P k e w B n S) (hk : P.underlying k = some (.int .i64)) (ht : P.underlying t = some (.map k e)) (y : Int) (hx : a.eval x = .int .i64 y) (hy : (Lit.int .i64 y).wf = true)
    (hK : ∀ w', SetM P k e w' B n (S.filter (fun z => z != y)) → w.mapTurned w' B → wpList P ops Q rest (a.put o.dst (.tuple #[])) w') :
    wpList P ops Q (o :: rest) a w := by
  obtain ⟨D, h1, h2⟩ := h
  refine wpList_delete_own w hg m x t k hop e (int_keyed hk) ht (plainElem P e) B n D hm h1 (.int .i64 y) _ hx (keyOf_int_mk hk hy) fun w' r1 r2 => hK w' ⟨_, r1, fun z => ?_⟩ r2
  rw [List.mem_filter]
  by_cases e1 : z = y
  · subst e1
    rw [has_del_same]
    simp
  · rw [has_del_other (fun e2 => e1 (by cases e2; rfl)), h2]
    simp [e1]
/-- The keys of such a map. -/
theorem keys_set {D : DataW Unit} (h1 : w.ownsMap P k (plainElem P e) B n D) (h2 : ∀ x : Int, has D (.int .i64 x) = true ↔ x ∈ S) (hk : P.underlying k = some (.int .i64)) : (intKeys D).Nodup ∧ (∀ x, x ∈ intKeys D ↔ x ∈ S) ∧ Maps.size D ≤ n := by
  have hsize : Maps.size D ≤ n := by
    obtain ⟨es0, clock, _, _, hs, hD0⟩ := h1
    rw [hD0]
    show List.length (List.foldr DataW.insert [] _) ≤ n
    rw [length_sorted]
    simpa using hs
  obtain ⟨es, hD, hpw, -⟩ := h1.entries (int_keyed hk)
  obtain ⟨es', hD', hko⟩ := h1.keysOf
  obtain rfl : es = es' := by rw [hD] at hD'; simpa using hD'
  subst hD
  have hki : ∀ p ∈ es, ∃ x, p.1 = .int .i64 x := fun p hp => by
    obtain ⟨v, hv⟩ := hko p hp
    obtain ⟨x, _, hx, _⟩ := Maps.keyOf_i64 hk hv
    exact ⟨x, hx⟩
  refine ⟨?_, fun x => ?_, hsize⟩
  · show (es.map fun p => Go.intOf p.1).Nodup
    refine List.pairwise_map.2 (hpw.imp_of_mem fun {p q} hp' hq' hne e9 => hne ?_)
    obtain ⟨a, ha⟩ := hki p hp'
    obtain ⟨b, hb⟩ := hki q hq'
    rw [ha, hb] at e9 ⊢
    exact congrArg _ e9
  · rw [← h2 x, has_eq, List.any_eq_true]
    show x ∈ es.map (fun p => Go.intOf p.1) ↔ _
    rw [List.mem_map]
    constructor
    · rintro ⟨p, hp', rfl⟩
      obtain ⟨a, ha⟩ := hki p hp'
      exact ⟨p, hp', by rw [ha]; simp [Lit.sameKey, Go.intOf]⟩
    · rintro ⟨p, hp', hs⟩
      obtain ⟨a, ha⟩ := hki p hp'
      rw [ha] at hs
      exact ⟨p, hp', by rw [ha]; simpa [Lit.sameKey, Go.intOf] using hs⟩
end
end Go.Proofs.YtjoffnbpaebgjaaGreat

namespace Go.Proofs.YtjoffnbpaebgjaaGreat
set_option linter.unusedVariables false
set_option linter.unusedSimpArgs false
open Go.RowKit

theorem cmp_spec (d : Array Int) (hs : ∀ i j, i ≤ j → j < d.size → d[i]! ≤ d[j]!) : ∀ m, m ≤ d.size → (Lib.compactUpTo d m).Pairwise (· < ·) ∧ ∀ x, x ∈ Lib.compactUpTo d m ↔ ∃ j, j < m ∧ d[j]! = x
  | 0, _ => ⟨by simp [Lib.compactUpTo], fun x => by simp [Lib.compactUpTo]⟩
  | m + 1, hm => by
    obtain ⟨h1, h2⟩ := cmp_spec d hs m (by omega)
    rw [Lib.compactUpTo_succ]
    by_cases hk : Lib.keeps d m = true
    · rw [if_pos hk]
      refine ⟨List.pairwise_append.2 ⟨h1, by simp, fun x hx y hy => ?_⟩, fun x => ?_⟩
      · obtain ⟨j, hj, e⟩ := (h2 x).1 hx
        rw [List.mem_singleton.1 hy, ← e]
        by_cases h0 : m = 0
        · omega
        · have h3 := hs j (m - 1) (by omega) (by omega)
          have h4 := hs (m - 1) m (by omega) (by omega)
          have h5 : d[m]! ≠ d[m - 1]! := by
            intro e2
            unfold Lib.keeps at hk
            simp [h0, e2] at hk
          omega
      · rw [List.mem_append, h2, List.mem_singleton]
        constructor
        · rintro (⟨j, hj, e⟩ | e)
          · exact ⟨j, by omega, e⟩
          · exact ⟨m, by omega, e.symm⟩
        · rintro ⟨j, hj, e⟩
          by_cases hjm : j = m
          · right; rw [← e, hjm]
          · left; exact ⟨j, by omega, e⟩
    · rw [if_neg hk, List.append_nil]
      refine ⟨h1, fun x => ?_⟩
      rw [h2]
      have h0 : m ≠ 0 := by rintro rfl; exact hk (by simp [Lib.keeps])
      have h5 : d[m]! = d[m - 1]! := by
        by_cases e : d[m]! = d[m - 1]!
        · exact e
        · exact absurd (by unfold Lib.keeps; simp [h0, e]) hk
      constructor
      · rintro ⟨j, hj, e⟩; exact ⟨j, by omega, e⟩
      · rintro ⟨j, hj, e⟩
        by_cases hjm : j = m
        · exact ⟨m - 1, by omega, by rw [← e, hjm, h5]⟩
        · exact ⟨j, by omega, e⟩
theorem srt_pw (zs : List Int) : (srt zs).Pairwise (· ≤ ·) := by
  have := List.pairwise_mergeSort (le := fun x y : Int => decide (x ≤ y)) (fun a b c h1 h2 => by simp only [decide_eq_true_eq] at *; omega) (fun a b => by simp only [Bool.or_eq_true, decide_eq_true_eq]; omega) zs
  exact this.imp (fun h => by simpa using h)
theorem cmp_sorted {zs : List Int} (h : zs.Pairwise (· ≤ ·)) : (Lib.compact zs).Pairwise (· < ·) ∧ ∀ x, x ∈ Lib.compact zs ↔ x ∈ zs := by
  have hs : ∀ i j, i ≤ j → j < zs.toArray.size → zs.toArray[i]! ≤ zs.toArray[j]! := fun i j hij hj => by
    have hj' : j < zs.length := by simpa using hj
    rw [List.getElem!_toArray, List.getElem!_toArray, getElem!_pos zs i (by omega), getElem!_pos zs j hj']
    by_cases e : i = j
    · subst e; exact Int.le_refl _
    · exact (List.pairwise_iff_getElem.1 h) i j (by omega) hj' (by omega)
  obtain ⟨h1, h2⟩ := cmp_spec zs.toArray hs zs.length (by simp)
  refine ⟨h1, fun x => ?_⟩
  show x ∈ Lib.compactUpTo _ _ ↔ _
  rw [h2]
  constructor
  · rintro ⟨j, hj, e⟩
    rw [List.getElem!_toArray, getElem!_pos zs j hj] at e
    rw [← e]; exact List.getElem_mem hj
  · intro hx
    obtain ⟨j, hj, e⟩ := List.getElem_of_mem hx
    exact ⟨j, hj, by rw [List.getElem!_toArray, getElem!_pos zs j hj]; exact e⟩
theorem asc_pw (cuts : List Int) : (ascL cuts).Pairwise (· < ·) := (cmp_sorted (srt_pw cuts)).1
theorem asc_iff (cuts : List Int) (x : Int) : x ∈ ascL cuts ↔ x ∈ cuts := ((cmp_sorted (srt_pw cuts)).2 x).trans (srt_perm cuts).mem_iff

section
variable {V : Type} [DecidableEq V] [Inhabited V]
def gtV (l : List (Int × Int × V)) (i : Nat) : Int × Int × V := l.getD i (0, 0, default)
def prt1V (acc : List (Int × Int × V)) (x y : Int) (v : V) : List (Int × Int × V) := if 0 < acc.length ∧ (gtV acc (acc.length - 1)).2.2 = v then acc.set (acc.length - 1) ((gtV acc (acc.length - 1)).1, y, v) else acc ++ [(x, y, v)]
def prtV (z : List Int) (f : Int → V) : Nat → List (Int × Int × V)
  | 0 => []
  | k + 1 => if k = 0 then [] else prt1V (prtV z f k) (gi z (k - 1)) (gi z k) (f (gi z (k - 1)))
/-- One metre more, where some values are of no account. -/
def st1V (sk : V → Bool) (acc : List (Int × Int × V)) (m : Int) (v : V) : List (Int × Int × V) :=
  if sk v = true then acc else if 0 < acc.length ∧ (gtV acc (acc.length - 1)).2.1 = m ∧ (gtV acc (acc.length - 1)).2.2 = v then acc.set (acc.length - 1) ((gtV acc (acc.length - 1)).1, m + 1, v) else acc ++ [(m, m + 1, v)]
def strV (sk : V → Bool) (f : Int → V) : Nat → List (Int × Int × V)
  | 0 => []
  | n + 1 => st1V sk (strV sk f n) n (f n)
omit [DecidableEq V] in
theorem gtV_snoc (pre : List (Int × Int × V)) (q : Int × Int × V) : gtV (pre ++ [q]) ((pre ++ [q]).length - 1) = q := by
  unfold gtV; simp
theorem set_snoc {α : Type} (pre : List α) (q r : α) : (pre ++ [q]).set ((pre ++ [q]).length - 1) r = pre ++ [r] := by
  rw [List.length_append, List.length_singleton, Nat.add_sub_cancel, List.set_append_right _ _ (Nat.le_refl _)]
  simp
theorem prt1V_snoc (pre : List (Int × Int × V)) (x y0 a b : Int) (u v : V) : prt1V (pre ++ [(x, y0, u)]) a b v = if u = v then pre ++ [(x, b, v)] else pre ++ [(x, y0, u)] ++ [(a, b, v)] := by
  unfold prt1V
  rw [gtV_snoc, set_snoc]
  by_cases h : u = v
  · rw [if_pos ⟨by simp, h⟩, if_pos h]
  · rw [if_neg (fun hh => h hh.2), if_neg h]
theorem strV_skip {sk : V → Bool} {f : Int → V} {v : V} (hv : sk v = true) (a : Nat) : ∀ n, (∀ i : Nat, a ≤ i → i < a + n → f i = v) → strV sk f (a + n) = strV sk f a
  | 0, _ => rfl
  | n + 1, h => by
    rw [← Nat.add_assoc, strV, h (a + n) (by omega) (by omega)]
    unfold st1V
    rw [if_pos hv]
    exact strV_skip hv a n (fun i h1 h2 => h i h1 (by omega))
theorem strV_more {sk : V → Bool} {f : Int → V} {v : V} (hv : sk v = false) (a : Nat) (pre : List (Int × Int × V)) (x : Int) (hS : strV sk f a = pre ++ [(x, (a : Int), v)]) : ∀ n, (∀ i : Nat, a ≤ i → i < a + n → f i = v) → strV sk f (a + n) = pre ++ [(x, ((a + n : Nat) : Int), v)]
  | 0, _ => hS
  | n + 1, h => by
    have ih := strV_more hv a pre x hS n (fun i h1 h2 => h i h1 (by omega))
    rw [← Nat.add_assoc, strV, h (a + n) (by omega) (by omega), ih]
    unfold st1V
    rw [if_neg (by rw [hv]; simp), gtV_snoc, set_snoc, if_pos ⟨by simp, rfl, rfl⟩]
    simp
theorem strV_new {sk : V → Bool} {f : Int → V} {v : V} (hv : sk v = false) (a : Nat) (hS : ¬ (0 < (strV sk f a).length ∧ (gtV (strV sk f a) ((strV sk f a).length - 1)).2.1 = a ∧ (gtV (strV sk f a) ((strV sk f a).length - 1)).2.2 = v)) (n : Nat) (h : ∀ i : Nat, a ≤ i → i < a + (n + 1) → f i = v) : strV sk f (a + (n + 1)) = strV sk f a ++ [((a : Int), ((a + (n + 1) : Nat) : Int), v)] := by
  have h1 : strV sk f (a + 1) = strV sk f a ++ [((a : Int), ((a + 1 : Nat) : Int), v)] := by
    rw [strV, h a (Nat.le_refl _) (by omega)]
    unfold st1V
    rw [if_neg (by rw [hv]; simp), if_neg hS]
    simp
  have h2 := strV_more hv (a + 1) (strV sk f a) (a : Int) h1 n (fun i h1 h2 => h i (by omega) (by omega))
  rw [show a + 1 + n = a + (n + 1) by omega] at h2
  exact h2
def fltV (sk : V → Bool) (acc : List (Int × Int × V)) : List (Int × Int × V) := acc.filter fun p => !(sk p.2.2)
omit [DecidableEq V] [Inhabited V] in
theorem fltV_snoc (sk : V → Bool) (pre : List (Int × Int × V)) (q : Int × Int × V) : fltV sk (pre ++ [q]) = fltV sk pre ++ if sk q.2.2 = true then [] else [q] := by
  unfold fltV
  rw [List.filter_append]
  cases h : sk q.2.2 <;> simp [List.filter_cons, h]
/-- What the two ways agree on, up to a cut. -/
def InvV (sk : V → Bool) (f : Int → V) (acc : List (Int × Int × V)) (a : Nat) : Prop :=
  strV sk f a = fltV sk acc ∧ ((acc = [] ∧ a = 0) ∨ ∃ pre x u, acc = pre ++ [(x, (a : Int), u)] ∧ x < (a : Int) ∧ ∀ p, p ∈ pre → p.2.1 ≤ x)
theorem invV_step {sk : V → Bool} {f : Int → V} {acc : List (Int × Int × V)} {a b : Nat} (hab : a < b) (hc : ∀ i : Nat, a ≤ i → i < b → f i = f a) (h : InvV sk f acc a) : InvV sk f (prt1V acc a b (f a)) b := by
  obtain ⟨n, rfl⟩ : ∃ n, b = a + (n + 1) := ⟨b - a - 1, by omega⟩
  generalize f a = v at *
  obtain ⟨h1, h2⟩ := h
  rcases h2 with ⟨rfl, rfl⟩ | ⟨pre, x, u, rfl, hx, hp⟩
  · have e : prt1V ([] : List (Int × Int × V)) ((0 : Nat) : Int) ((0 + (n + 1) : Nat) : Int) v = [] ++ [(((0 : Nat) : Int), ((0 + (n + 1) : Nat) : Int), v)] := by unfold prt1V; simp
    rw [e]
    refine ⟨?_, .inr ⟨[], _, v, rfl, by omega, fun p hp => by cases hp⟩⟩
    rw [fltV_snoc]
    cases hv : sk v with
    | true => rw [strV_skip hv 0 (n + 1) hc, if_pos rfl]; rfl
    | false => rw [strV_new hv 0 (fun hh => absurd hh.1 (by simp [strV])) n hc, if_neg (by simp)]; rfl
  · rw [prt1V_snoc]
    rw [fltV_snoc] at h1
    by_cases huv : u = v
    · subst huv
      rw [if_pos rfl]
      refine ⟨?_, .inr ⟨pre, x, u, rfl, by omega, hp⟩⟩
      rw [fltV_snoc]
      cases hv : sk u with
      | true =>
        rw [if_pos hv] at h1
        rw [strV_skip hv a (n + 1) hc, h1, if_pos rfl]
      | false =>
        rw [if_neg (by rw [hv]; simp)] at h1
        rw [strV_more hv a _ x h1 (n + 1) hc, if_neg (by simp)]
    · rw [if_neg huv]
      refine ⟨?_, .inr ⟨pre ++ [(x, (a : Int), u)], a, v, rfl, by omega, fun p hpm => ?_⟩⟩
      · rw [fltV_snoc, fltV_snoc, ← h1]
        cases hv : sk v with
        | true => rw [strV_skip hv a (n + 1) hc, if_pos rfl, List.append_nil]
        | false =>
          rw [strV_new hv a ?_ n hc, if_neg (by simp)]
          rw [h1]
          rintro ⟨g1, g2, g3⟩
          cases hu : sk u with
          | false =>
            rw [hu, if_neg (by simp), gtV_snoc] at g3
            exact huv g3
          | true =>
            rw [hu, if_pos rfl, List.append_nil] at g1 g2
            have hm : gtV (fltV sk pre) ((fltV sk pre).length - 1) ∈ fltV sk pre := by
              unfold gtV
              rw [List.getD_eq_getElem?_getD, List.getElem?_eq_getElem (by omega)]
              exact List.getElem_mem _
            have := hp _ (List.mem_filter.1 hm).1
            omega
      · rw [List.mem_append, List.mem_singleton] at hpm
        rcases hpm with hpm | rfl
        · have := hp p hpm; omega
        · exact Int.le_refl _
theorem parts_str {sk : V → Bool} {f : Int → V} {z : List Int} (hz : z.Pairwise (· < ·)) (h0 : 0 < z.length → gi z 0 = 0) (hc : ∀ k, k + 1 < z.length → ∀ i : Int, gi z k ≤ i → i < gi z (k + 1) → f i = f (gi z k)) : ∀ k, k < z.length → InvV sk f (prtV z f (k + 1)) (gi z k).toNat
  | 0, hk => by
    rw [h0 hk]
    refine ⟨?_, .inl ⟨by rw [prtV, if_pos rfl], rfl⟩⟩
    rw [prtV, if_pos rfl]; rfl
  | k + 1, hk => by
    have ih := parts_str (sk := sk) hz h0 hc k (by omega)
    have hlt : ∀ i j, i < j → j < z.length → gi z i < gi z j := fun i j hij hj => by
      unfold gi
      rw [List.getD_eq_getElem?_getD, List.getD_eq_getElem?_getD, List.getElem?_eq_getElem (by omega), List.getElem?_eq_getElem hj]
      exact (List.pairwise_iff_getElem.1 hz) i j (by omega) hj hij
    have hpos : 0 ≤ gi z k := by
      by_cases e : k = 0
      · subst e; rw [h0 (by omega)]; exact Int.le_refl _
      · have := hlt 0 k (by omega) (by omega); rw [h0 (by omega)] at this; omega
    have hlk := hlt k (k + 1) (by omega) hk
    have e1 : ((gi z k).toNat : Int) = gi z k := Int.toNat_of_nonneg hpos
    have e2 : ((gi z (k + 1)).toNat : Int) = gi z (k + 1) := Int.toNat_of_nonneg (by omega)
    have st := invV_step (b := (gi z (k + 1)).toNat) (by omega) (fun i h1 h2 => by
      rw [e1]; exact hc k hk i (by omega) (by omega)) ih
    rw [e1, e2] at st
    rw [prtV, if_neg (by omega)]
    exact st
/-- Parts between cuts, those of no account left out, are the stretches metre by metre. -/
theorem parts_all {sk : V → Bool} {f : Int → V} {z : List Int} {L : Int} (hz : z.Pairwise (· < ·)) (h0 : gi z 0 = 0) (hL : gi z (z.length - 1) = L) (hne : 0 < z.length) (hc : ∀ k, k + 1 < z.length → ∀ i : Int, gi z k ≤ i → i < gi z (k + 1) → f i = f (gi z k)) : fltV sk (prtV z f z.length) = strV sk f L.toNat := by
  have := (parts_str (sk := sk) hz (fun _ => h0) hc (z.length - 1) (by omega)).1
  rw [hL, show z.length - 1 + 1 = z.length by omega] at this
  exact this.symm
end
theorem prtK_V (z : List Int) (f : Int → Int) : ∀ k, prtK z f k = prtV z f k
  | 0 => rfl
  | k + 1 => by
    rw [prtK, prtV, prtK_V z f k]; rfl
end Go.Proofs.YtjoffnbpaebgjaaGreat
