/-
  The law's spread. By an AI agent.; The gaps in their order, those of one way metre by metre (for the law RuleWays). By an AI agent.
-/
import Derived.Test.YtlpdjinhkmgbgaaGreatDoorMgRuleWays14
import Derived.Deep.RegionHeld3
import Derived.Deep.DeepCutAuto
import Derived.BigQuiet
import Derived.BigRegion
import Derived.StillTailTactics
import Derived.Deep.AppendLies

namespace Go.Proofs.YtlpdjinhkmgbgaaGreatDoor
set_option linter.unusedVariables false
set_option linter.unusedSimpArgs false
open Go.RowKit

/-- The value of the stretch before. -/
def valP (S : List Tri) (k : Nat) : Int := if k = 0 then 0 else (gtV S (k - 1)).2.2
theorem valP_succ (S : List Tri) (k : Nat) : valP S (k + 1) = (gtV S k).2.2 := by
  unfold valP; rw [if_neg (by omega), Nat.add_sub_cancel]
/-- Metre by metre. -/
def SprA (f : Int → Int) (N : Nat) (w : World) (e : Ending) (w' : World) : Prop :=
  ∃ g, e = .returned (.tuple #[.slice (some ⟨g, 0, none⟩) N N, .bool true]) ∧ (∀ j : Nat, j < N → w'.cell? ⟨g, j, none⟩ = some (.int .i64 (f j))) ∧ Below w.heap.size w w'
set_option maxRecDepth 100000 in
set_option maxHeartbeats 4000000 in
theorem spread_r (f : Int → Int) (N : Nat) (hN : N ≤ 100000) (S : List Tri) (hS : S = strV (fun v : Int => v == 0) f N) (b : Option Addr) (cb : Nat) (w : World) (hT : TriS w b S) :
    Calls Tryz.prog 20 #[.int .i64 N, .slice b S.length cb] w (SprA f N w) := by
  obtain ⟨G1, G2, G3, G4⟩ := str_ok (fun v : Int => v == 0) f N
  rw [← hS] at G1 G2 G3 G4
  have HBd : Hid (∀ k, k < S.length → 0 ≤ endK S k ∧ (gtV S k).2.1 ≤ N) := Lib.hid fun k hk => by
    rw [hS] at hk ⊢
    have := str_bd hk
    exact ⟨this.1, this.2.2⟩
  have HG1 := Lib.hid G1
  have HEnd : Hid (valK (uptF f (endK S S.length)) N = valK f N) := Lib.hid (uptL_all fun m h1 h2 => by simpa using G4 m h1 h2)
  clear hS G1 G2 G3 G4
  obtain ⟨hlen, blk, off, hadr, hc⟩ := hT
  have HC := Lib.hid hc
  have HL : Hid (0 < S.length → b = some ⟨blk, off, none⟩) := Lib.hid fun h => hadr (List.ne_nil_of_length_pos h)
  clear hc hadr
  obtain ⟨i0, hi, hz0, hz1, hz2⟩ := info_parts infoInt
  go_enter Tryz.func20, Tryz.ntmps20
  go_wp2_with (refine wpList_make_full _ rfl _ _ 22 rfl w.heap.size 3 i0 (.int .i64 0) 1 Tryz.underlying22 hi hz0 hz1 _ _ (N : Int) (N : Int) N rfl rfl (by omega) (by omega) ?c1 ?c2 ?c3 ?_)
  case c1 => rw [hz2]; omega
  case c2 => unfold maxLen; omega
  case c3 => simp
  intro w5 hown hgrow
  have hb5 : Below w.heap.size w w5 := (Below.refl _ _).grown hgrow (Nat.le_refl _) (fun k h => by cases h)
  have hrow0 : w5.ownsRow w.heap.size 3 1 (.slice (some ⟨w.heap.size, 0, none⟩) N N) N (clI (valK (uptF f 0) N)) := by
    rw [uptL_none, clI_rep, ← toList_madeCells_one]
    exact hown
  obtain ⟨g, hg, hgw⟩ : ∃ g, w.heap.size = g ∧ w.heap.size ≤ g := ⟨_, rfl, Nat.le_refl _⟩
  have HR0 : Hid (w5.ownsRow w.heap.size 3 1 (.slice (some ⟨g, 0, none⟩) N N) N (clI (valK (uptF f 0) N))) := Lib.hid (by rw [show (some ⟨g, 0, none⟩ : Option Addr) = some ⟨w.heap.size, 0, none⟩ by rw [hg]]; exact hrow0)
  have hgs : (some ⟨w.heap.size, 0, none⟩ : Option Addr) = some ⟨g, 0, none⟩ := by rw [hg]
  rw [hgs]
  clear hown hgrow hi hz0 hz1 hz2 hrow0 hgs hg
  go_wp2_with fail
  go_loopw [7, 8, 9] (fun la va i wr => ∃ k : Nat, k ≤ S.length ∧ i = .int .i64 k ∧ la = .int .i64 (endK S k) ∧ va = .int .i64 (valP S k) ∧ Hid (wr.ownsRow w.heap.size 3 1 (.slice (some ⟨g, 0, none⟩) N N) N (clI (valK (uptF f (endK S k)) N))) ∧ Below w.heap.size w wr) (fun _ _ i _ => S.length - (intOf i).toNat)
  case atStart => exact ⟨0, Nat.zero_le _, rfl, rfl, rfl, HR0, hb5⟩
  case round =>
    obtain ⟨k, hk, rfl, rfl, rfl, HRow, hbr⟩ := hrel
    by_cases hlt : k < S.length
    · obtain rfl := HL.out (by omega)
      obtain ⟨x0, x1, x2⟩ := HC.out k hlt
      have c1 := x1
      have c2 := x2
      change w.cell? ⟨blk, off + k * 3 + 1, none⟩ = some (.int .i64 (gtV S k).2.1) at c1
      change w.cell? ⟨blk, off + k * 3 + 2, none⟩ = some (.int .i64 (gtV S k).2.2) at c2
      have x0 := cell_below x0 hbr
      have x1 := cell_below x1 hbr
      have x2 := cell_below x2 hbr
      obtain ⟨a1, a2, a3, a4, a5, a6⟩ := HG1.out k hlt
      obtain ⟨b1, b2⟩ := HBd.out k hlt
      have eE := endK_succ S k
      have eV := valP_succ S k
      have eU : 0 < k → valP S k = (gtV S (k - 1)).2.2 := fun h => by unfold valP; rw [if_neg (by omega)]
      change wr.cell? ⟨blk, off + k * 3, none⟩ = some (.int .i64 (gtV S k).1) at x0
      change wr.cell? ⟨blk, off + k * 3 + 1, none⟩ = some (.int .i64 (gtV S k).2.1) at x1
      change wr.cell? ⟨blk, off + k * 3 + 2, none⟩ = some (.int .i64 (gtV S k).2.2) at x2
      have HNx : Hid (endK S (k + 1) = (gtV S k).2.1 ∧ valP S (k + 1) = (gtV S k).2.2) := Lib.hid ⟨eE, eV⟩
      have a4' : 0 < k → (gtV S k).1 = endK S k → (gtV S k).2.2 ≠ valP S k := fun h h2 => by rw [eU h]; exact a4 h h2
      have v0 : (gtV S k).2.2 ≠ 0 := by simpa using a3
      have HRx : Hid (valK (uptF f (endK S k)) N = valK (uptF f (gtV S k).1) N) := Lib.hid (uptL_same a1 (fun m h1 h2 => by simpa using a5 m h1 h2))
      have HF6 := Lib.hid a6
      have hxa : 0 ≤ (gtV S k).1 := by omega
      clear eE eV eU a4 a3 a5 a6
      obtain ⟨X, hX⟩ : ∃ X : Nat, (gtV S k).1 = X := ⟨(gtV S k).1.toNat, by omega⟩
      obtain ⟨Y, hY⟩ : ∃ Y : Nat, (gtV S k).2.1 = Y := ⟨(gtV S k).2.1.toNat, by omega⟩
      rw [hX] at x0 a1 a2 a4' HRx HF6
      rw [hY] at x1 c1 a2 b2 HF6 HNx
      rw [HRx.out] at HRow
      clear hX hY hxa HRx
      generalize (gtV S k).2.2 = v at *
      generalize endK S k = e0 at *
      generalize valP S k = u0 at *
      have C1 := Lib.hid c1
      have C2 := Lib.hid c2
      clear c1 c2
      have d0 : ¬ ((X : Int) < e0) := by omega
      have d1 : ¬ ((Y : Int) ≤ (X : Int)) := by omega
      have d2 : ¬ ((N : Int) < (Y : Int)) := by omega
      have d3 : (v == 0) = false := beq_false_of_ne v0
      have e00 : decide ((X : Int) < e0) = false := decide_eq_false d0
      have e01 : decide ((Y : Int) ≤ (X : Int)) = false := decide_eq_false d1
      have e02 : decide ((N : Int) < (Y : Int)) = false := decide_eq_false d2
      have hXY : X < Y := by omega
      have hYN : Y ≤ N := by omega
      have d1n : ¬ (Y ≤ X) := by omega
      have d2n : ¬ (N < Y) := by omega
      have k0 : (0 : Int) ≤ (k : Int) := by omega
      have k1 : (k : Int) < S.length := by omega
      go_upto_region 6 with (fail)
      go_cut [77] (fun z wx => z = .bool false ∧ Below wr.heap.size wr wx)
      case first =>
        clear HRow HF6 HNx HEnd HG1 HBd HC HL
        by_cases hk0 : k = 0
        · have q0 : ¬ (0 < k) := by omega
          have q1 : ¬ ((0 : Int) < (k : Int)) := by omega
          have q2 : decide ((0 : Int) < (k : Int)) = false := decide_eq_false q1
          have q3 : decide (0 < k) = false := decide_eq_false q0
          clear hk0
          go_wp2_with fail
          go_quiet (fail)
          go_wp2_with fail
          go_meet
          exact ⟨rfl, below_drewN (Below.refl _ _) _⟩
        · have q0 : 0 < k := by omega
          have q1 : (0 : Int) < (k : Int) := by omega
          have q2 : decide ((0 : Int) < (k : Int)) = true := decide_eq_true q1
          have q3 : decide (0 < k) = true := decide_eq_true q0
          clear hk0
          by_cases hxe : (X : Int) = e0
          · have f0 : ((X : Int) == e0) = true := by simp [hxe]
            have f1 : (v == u0) = false := beq_false_of_ne (a4' q0 hxe)
            clear hxe a4' a1 b1
            go_wp2_with fail
            go_quiet (fail)
            go_wp2_with fail
            go_meet
            exact ⟨rfl, below_drewN (Below.refl _ _) _⟩
          · have f0 : ((X : Int) == e0) = false := beq_false_of_ne hxe
            clear hxe a4' a1 b1
            go_wp2_with fail
            go_quiet (fail)
            go_wp2_with fail
            go_meet
            exact ⟨rfl, below_drewN (Below.refl _ _) _⟩
      case rest =>
        obtain ⟨rfl, hbx⟩ := hcut
        obtain ⟨wx, rfl⟩ : ∃ wx : World, wx = wc := ⟨_, rfl⟩
        have HRow := Lib.hid (owns_belowI HRow.out hbx)
        have X0 := Lib.hid (cell_below x0 hbx)
        have X1 := Lib.hid (cell_below x1 hbx)
        have X2 := Lib.hid (cell_below x2 hbx)
        have hbr := hbr.trans (hbx.mono hbr.size)
        have hzb := block_lt (HC.out k hlt).1
        have HA4 := Lib.hid a4'
        clear x0 x1 x2 hbx d0 d1 d2 d3 e00 e01 e02 d1n d2n a1 a2 b1 b2 a4' v0
        have x0 := X0.out
        go_wp2_with fail
        clear x0
        go_loopw [10] (fun mv wq => ∃ j : Nat, X ≤ j ∧ j ≤ Y ∧ mv = .int .i64 j ∧ Hid (wq.ownsRow w.heap.size 3 1 (.slice (some ⟨g, 0, none⟩) N N) N (clI (valK (uptF f (j : Nat)) N))) ∧ Below w.heap.size w wq) (fun mv _ => Y - (intOf mv).toNat)
        case atStart => exact ⟨X, Nat.le_refl _, Nat.le_of_lt hXY, rfl, HRow, hbr⟩
        case round =>
          obtain ⟨j, hj1, hj2, rfl, HRow, hbr⟩ := hrel
          have x1 := cell_below C1.out hbr
          have x2 := cell_below C2.out hbr
          by_cases hjl : j < Y
          · have hv : f (j : Int) = v := HF6.out j (by omega) (by omega)
            have fx := World.ownsRow.frozenAt HRow.out j
            have y9 := World.ownsRow.cellAt HRow.out j (by omega)
            have y0 : wr.cell? ⟨g, j, none⟩ = some (.int .i64 (uptF f (j : Nat) j)) := by
              rw [y9]
              unfold clI
              rw [List.getElem?_map, valK_at _ (by omega)]; rfl
            have HSET : Hid (∀ W : World, W.ownsRow w.heap.size 3 1 (.slice (some ⟨g, 0, none⟩) N N) N (clI (valK (uptF f (j : Nat)) N)) → (W.setCell ⟨g, j, none⟩ (.int .i64 v)).ownsRow w.heap.size 3 1 (.slice (some ⟨g, 0, none⟩) N N) N (clI (valK (uptF f ((j + 1 : Nat) : Int)) N))) := Lib.hid fun W h => by
              have := (World.ownsRow.stored h j (.int .i64 v)).1
              rw [clI_set, ← hv, uptL_set (by omega), hv] at this
              exact this
            clear y9
            generalize uptF f (j : Nat) j = o9 at *
            have k0 : (0 : Int) ≤ (k : Int) := by omega
            have k1 : (k : Int) < S.length := by omega
            have j0 : (0 : Int) ≤ (j : Int) := by omega
            have j1 : (j : Int) < (N : Int) := by omega
            have jY : (j : Int) < (Y : Int) := by omega
            clear hv HF6 HA4 X0 X1 X2 HEnd HG1 HBd HC HL HNx
            go_wp2_with fail
            go_roundw
            case rel => exact ⟨j + 1, by omega, by omega, by go_num, Lib.hid (HSET.out _ HRow.out), hbr.setCell (p := ⟨g, j, none⟩) hgw _⟩
            case measure => simp [intOf]; omega
          · obtain rfl : j = Y := by omega
            have k0 : (0 : Int) ≤ (k : Int) := by omega
            have k1 : (k : Int) < S.length := by omega
            have jY : ¬ ((j : Int) < (j : Int)) := by omega
            clear HF6 HA4 X0 X1 X2 HEnd HG1 HBd HC HL
            go_wp2_with fail
            go_quiet (fail)
            go_wp2_with fail
            go_roundw
            case rel => exact ⟨k + 1, by omega, by go_num, by rw [HNx.out.1], by rw [HNx.out.2], Lib.hid (by rw [HNx.out.1]; exact owns_belowI HRow.out (below_drewN (Below.refl _ _) _)), below_drewN hbr _⟩
            case measure => simp [intOf]; omega
    · obtain rfl : k = S.length := by omega
      have HRes : Hid (SprA f N w (.returned (.tuple #[.slice (some ⟨g, 0, none⟩) N N, .bool true])) wr) := Lib.hid ⟨g, rfl, fun j hj => by
        have h := World.ownsRow.cellAt HRow.out j (by omega)
        rw [HEnd.out] at h
        rw [h]
        unfold clI
        rw [List.getElem?_map, valK_at _ hj]; rfl, hbr⟩
      clear HRow HEnd HG1 HBd HC HL
      go_wp2_with fail
      go_ret2
      exact HRes.out
end Go.Proofs.YtlpdjinhkmgbgaaGreatDoor

namespace Go.Proofs.YtlpdjinhkmgbgaaGreatDoor
set_option linter.unusedVariables false
set_option linter.unusedSimpArgs false
open Go.RowKit

/-- Where two functions differ. -/
def difB (f g : Int → Int) (m : Int) : Bool := f m != g m
theorem gg6_mem2 {G : List Gp6} {i : Nat} (hi : i < G.length) : gg6 G i ∈ G := by rw [gg6_get hi]; exact List.getElem_mem _
theorem gap_run {L : Int} {js : List Int} {l : List Sgn} {q : List Edc} {h T D : Int} (hL : 0 ≤ L) (hT : topB T = true) (hD : dirB D = true) : ∃ eN : Nat → Int, eN 0 = 0 ∧
    (∀ i, i < (gapK L js l q h 4).length → (0 ≤ (gg6 (gapK L js l q h 4) i).2.2.1 ∧ (gg6 (gapK L js l q h 4) i).2.2.1 < (gg6 (gapK L js l q h 4) i).2.2.2.1 ∧ (gg6 (gapK L js l q h 4) i).2.2.2.1 ≤ L) ∧
      (ownB T D (gg6 (gapK L js l q h 4) i) = true → eN i ≤ (gg6 (gapK L js l q h 4) i).2.2.1 ∧ (∀ m : Int, eN i ≤ m → m < (gg6 (gapK L js l q h 4) i).2.2.1 → difB (fun m => hldV L js l h D T m) (fun m => mustV q h T D m) m = false) ∧
        (∀ m : Int, (gg6 (gapK L js l q h 4) i).2.2.1 ≤ m → m < (gg6 (gapK L js l q h 4) i).2.2.2.1 → hldV L js l h D T m = (gg6 (gapK L js l q h 4) i).2.2.2.2.1 ∧ mustV q h T D m = (gg6 (gapK L js l q h 4) i).2.2.2.2.2 ∧ difB (fun m => hldV L js l h D T m) (fun m => mustV q h T D m) m = true) ∧
        eN (i + 1) = (gg6 (gapK L js l q h 4) i).2.2.2.1) ∧
      (ownB T D (gg6 (gapK L js l q h 4) i) = false → eN (i + 1) = eN i)) ∧
    (∀ m : Int, eN (gapK L js l q h 4).length ≤ m → m < L → difB (fun m => hldV L js l h D T m) (fun m => mustV q h T D m) m = false) := by
  obtain ⟨g1, g2, g3, g4⟩ := str_ok skG (bothF L js l q h T D) L.toNat
  have hS : strV skG (bothF L js l q h T D) L.toNat = ownS L js l q h T D := rfl
  rw [hS] at g1 g2 g3 g4
  have hsk : ∀ m : Int, skG (bothF L js l q h T D m) = true → difB (fun m => hldV L js l h D T m) (fun m => mustV q h T D m) m = false := fun m hm => by
    unfold skG bothF at hm
    unfold difB
    simpa using hm
  have hAll := gap_own_all (L := L) (js := js) (l := l) (q := q) (h := h) hT hD
  refine ⟨fun i => endK (ownS L js l q h T D) (ownN T D (gapK L js l q h 4) i), ?_, fun i hi => ⟨?_, fun ho => ?_, fun ho => ?_⟩, ?_⟩
  · show endK _ (ownN T D _ 0) = 0
    rw [ownN_zero]; rfl
  · exact gap_bd hL (gg6_mem2 hi)
  · obtain ⟨e1, e2, e3⟩ := ownN_yes hi ho
    rw [hAll] at e2 e3
    obtain ⟨a1, a2, a3, a4, a5, a6⟩ := g1 _ e2
    rw [e3] at a1 a2 a3 a4 a5 a6
    refine ⟨a1, fun m h1 h2 => hsk m (a5 m h1 h2), fun m h1 h2 => ?_, ?_⟩
    · have e := a6 m h1 h2
      refine ⟨congrArg (·.1) e, congrArg (·.2) e, ?_⟩
      rw [← e] at a3
      unfold skG bothF at a3
      unfold difB
      simpa using a3
    · show endK _ (ownN T D _ (i + 1)) = _
      rw [e1, endK_succ, e3]
  · show endK _ (ownN T D _ (i + 1)) = endK _ (ownN T D _ i)
    rw [ownN_no hi ho]
  · intro m h1 h2
    refine hsk m (g4 m ?_ (by omega))
    have h1 : endK (ownS L js l q h T D) (ownN T D (gapK L js l q h 4) (gapK L js l q h 4).length) ≤ m := h1
    rw [ownN_all, hAll] at h1
    exact h1
end Go.Proofs.YtlpdjinhkmgbgaaGreatDoor
