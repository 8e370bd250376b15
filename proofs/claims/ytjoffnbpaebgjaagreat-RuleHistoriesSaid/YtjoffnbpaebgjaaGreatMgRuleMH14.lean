/-
  Between two neighbouring moments nothing changes. By an AI agent.; The program's moments. By an AI agent.; What faults the signs of a row have: endsAny, code, faulty. By an AI agent.; Library functions laid at this program, in plain words. By an AI agent.
-/
import Derived.Test.YtjoffnbpaebgjaaGreatMgRuleMH1
import Derived.Test.YtjoffnbpaebgjaaGreatMgRuleMH2
import Derived.Test.YtjoffnbpaebgjaaGreatMgRuleMH4
import Derived.Test.YtjoffnbpaebgjaaGreatMgRuleMH11
import Derived.Test.YtjoffnbpaebgjaaGreatMgRuleMH13
import Derived.Deep.RegionHeld3
import Derived.Deep.DeepCutAuto
import Derived.BigQuiet
import Derived.BigRegion
import Derived.StillTailTactics
import Derived.Deep.AppendLies
import Derived.Carry
import Derived.Maps.AppendAt
import Derived.Shelf.SlSortCmp.WholeK
import Derived.Ground.SlsfProg
import Derived.Test.YtjoffnbpaebgjaaGreatProg

namespace Go.Proofs.YtjoffnbpaebgjaaGreat
set_option linter.unusedVariables false
set_option linter.unusedSimpArgs false
open Go.RowKit

/-- Two hours at which the same has begun. -/
def SameH (l : List Sgn) (q : List Edc) (h g : Int) : Prop := ∀ c, c ∈ hrs l q → (c ≤ h ↔ c ≤ g)
theorem sameH_of {l : List Sgn} {q : List Edc} {h g : Int} (h1 : h ≤ 10000000) (g1 : g ≤ 10000000) (H : ∀ c, c ∈ momL l q → (c ≤ h ↔ c ≤ g)) : SameH l q h g := fun c hc => by
  by_cases e : c ≤ 10000000
  · exact H c (mom_mem.2 ⟨hc, e⟩)
  · omega
theorem hrs_sgn {l : List Sgn} {q : List Edc} {i : Nat} (hi : i < l.length) {x : Int} (hx : x = (gs l i).up ∨ x = (gs l i).dn ∨ ∃ j, j < (gs l i).cv.length ∧ (x = (gp (gs l i).cv j).1 ∨ x = (gp (gs l i).cv j).2)) : x ∈ hrs l q := by
  unfold hrs
  rw [List.mem_append]
  exact .inl (hrS_mem.2 ⟨i, hi, hx⟩)
theorem hrs_edc {l : List Sgn} {q : List Edc} {i : Nat} (hi : i < q.length) {x : Int} (hx : x = (ge q i).st ∨ x = (ge q i).en) : x ∈ hrs l q := by
  unfold hrs
  rw [List.mem_append]
  exact .inr (hrE_mem.2 ⟨i, hi, hx⟩)
theorem covH_same {p : Spn} {h g : Int} (h1 : p.1 ≤ h ↔ p.1 ≤ g) (h2 : p.2 ≤ h ↔ p.2 ≤ g) : covH p h = covH p g := by
  unfold covH
  rw [decide_eq_decide.2 h1, decide_eq_decide.2 (show h < p.2 ↔ g < p.2 by omega)]
theorem anyK_eq {p r : Nat → Bool} : ∀ n, (∀ j, j < n → p j = r j) → anyK p n = anyK r n
  | 0, _ => rfl
  | n + 1, h => by
    have ih := anyK_eq n (fun j hj => h j (by omega))
    have e := h n (by omega)
    simp only [anyK] at *
    rw [ih, e]
theorem spk_same {l : List Sgn} {q : List Edc} {h g : Int} (H : SameH l q h g) {i : Nat} (hi : i < l.length) : spkB (gs l i) h = spkB (gs l i) g := by
  unfold spkB
  have h1 := H _ (hrs_sgn hi (.inl rfl))
  have h2 := H _ (hrs_sgn hi (.inr (.inl rfl)))
  rw [decide_eq_decide.2 h1, decide_eq_decide.2 (show h < (gs l i).dn ↔ g < (gs l i).dn by omega), anyK_eq (gs l i).cv.length (fun j hj => covH_same (H _ (hrs_sgn hi (.inr (.inr ⟨j, hj, .inl rfl⟩)))) (H _ (hrs_sgn hi (.inr (.inr ⟨j, hj, .inr rfl⟩)))))]
theorem ins_same {l : List Sgn} {q : List Edc} {h g : Int} (H : SameH l q h g) (L dir : Int) : ∀ k, k ≤ l.length → insR L dir h l k = insR L dir g l k
  | 0, _ => rfl
  | k + 1, hk => by
    have e : selB dir h (gs l k) = selB dir g (gs l k) := by unfold selB; rw [spk_same H (by omega)]
    rw [insR, insR, ins_same H L dir k (by omega), e]
theorem hld_hour {l : List Sgn} {q : List Edc} {h g : Int} (H : SameH l q h g) (L : Int) (js : List Int) (dir t m : Int) : hldV L js l h dir t m = hldV L js l g dir t m := by
  unfold hldV
  rw [ins_same H L dir _ (Nat.le_refl _)]
theorem must_hourK {l : List Sgn} {q : List Edc} {h g : Int} (H : SameH l q h g) (t d m : Int) : ∀ k, k ≤ q.length → mustK q h t d m k = mustK q g t d m k
  | 0, _ => rfl
  | k + 1, hk => by
    have h1 := H _ (hrs_edc (q := q) (i := k) (by omega) (.inl rfl))
    have h2 := H _ (hrs_edc (q := q) (i := k) (by omega) (.inr rfl))
    have e : edB (ge q k) h t d m = edB (ge q k) g t d m := by
      unfold edB
      rw [decide_eq_decide.2 h1, decide_eq_decide.2 (show h < (ge q k).en ↔ g < (ge q k).en by omega)]
    rw [mustK, mustK, must_hourK H t d m k (by omega), e]
theorem must_hour {l : List Sgn} {q : List Edc} {h g : Int} (H : SameH l q h g) (t d m : Int) : mustV q h t d m = mustV q g t d m := by
  unfold mustV
  rw [must_hourK H t d m _ (Nat.le_refl _)]
/-- Where the law's from and to stand behind the first k moments. -/
def frK (z : List Int) (h : Int) : Nat → Int
  | 0 => 0
  | k + 1 => if gi z k ≤ h then gi z k else frK z h k
def toK (z : List Int) (h : Int) : Nat → Int
  | 0 => 10000000
  | k + 1 => if gi z k ≤ h then toK z h k else min (toK z h k) (gi z k - 1)
theorem fr_yes {z : List Int} {h : Int} {k : Nat} (e : gi z k ≤ h) : frK z h (k + 1) = gi z k ∧ toK z h (k + 1) = toK z h k := by rw [frK, toK, if_pos e, if_pos e]; exact ⟨rfl, rfl⟩
theorem fr_no {z : List Int} {h : Int} {k : Nat} (e : ¬ gi z k ≤ h) : frK z h (k + 1) = frK z h k ∧ toK z h (k + 1) = min (toK z h k) (gi z k - 1) := by rw [frK, toK, if_neg e, if_neg e]; exact ⟨rfl, rfl⟩
theorem fr_spec {z : List Int} {h : Int} (hs : z.Pairwise (· < ·)) (hz : ∀ c, c ∈ z → 0 ≤ c ∧ c ≤ 10000000) (h0 : 0 ≤ h) (h1 : h ≤ 10000000) : ∀ k, k ≤ z.length →
    (0 ≤ frK z h k ∧ frK z h k ≤ h ∧ h ≤ toK z h k ∧ toK z h k ≤ 10000000) ∧ (∀ i, i < k → gi z i ≤ h → gi z i ≤ frK z h k) ∧ (∀ i, i < k → h < gi z i → toK z h k < gi z i)
  | 0, _ => ⟨⟨Int.le_refl _, h0, h1, Int.le_refl _⟩, fun i hi => absurd hi (Nat.not_lt_zero _), fun i hi => absurd hi (Nat.not_lt_zero _)⟩
  | k + 1, hk => by
    obtain ⟨⟨a1, a2, a3, a4⟩, a5, a6⟩ := fr_spec hs hz h0 h1 k (by omega)
    have hb := hz (gi z k) (gi_mem (by omega))
    have hlt : ∀ i, i < k → gi z i < gi z k := fun i hi => by
      have := (List.pairwise_iff_getElem.1 hs) i k (by omega) (by omega) hi
      rwa [← gi_at _ (by omega), ← gi_at _ (by omega)] at this
    by_cases e : gi z k ≤ h
    · rw [(fr_yes e).1, (fr_yes e).2]
      refine ⟨⟨hb.1, e, a3, a4⟩, fun i hi h9 => ?_, fun i hi h9 => ?_⟩
      · by_cases ei : i = k
        · rw [ei]; exact Int.le_refl _
        · have := hlt i (by omega); omega
      · by_cases ei : i = k
        · rw [ei] at h9; omega
        · exact a6 i (by omega) h9
    · rw [(fr_no e).1, (fr_no e).2]
      refine ⟨⟨a1, a2, by omega, by omega⟩, fun i hi h9 => ?_, fun i hi h9 => ?_⟩
      · by_cases ei : i = k
        · rw [ei] at h9; exact absurd h9 e
        · exact a5 i (by omega) h9
      · by_cases ei : i = k
        · rw [ei]; omega
        · have := a6 i (by omega) h9
          omega
theorem mom_in {l : List Sgn} {q : List Edc} (hb : ∀ x, x ∈ hrs l q → 0 ≤ x) {c : Int} (h : c ∈ momL l q) : 0 ≤ c ∧ c ≤ 10000000 := by
  have := mom_mem.1 h
  exact ⟨hb c this.1, this.2⟩
theorem mom_same {l : List Sgn} {q : List Edc} {h o : Int} (hb : ∀ x, x ∈ hrs l q → 0 ≤ x) (h0 : 0 ≤ h) (h1 : h ≤ 10000000) (o0 : frK (momL l q) h (momL l q).length ≤ o) (o1 : o ≤ toK (momL l q) h (momL l q).length) : SameH l q h o := by
  obtain ⟨⟨a1, a2, a3, a4⟩, a5, a6⟩ := fr_spec (mom_asc l q) (fun c hc => mom_in hb hc) h0 h1 (momL l q).length (Nat.le_refl _)
  refine sameH_of h1 (by omega) fun c hc => ?_
  obtain ⟨i, hi, rfl⟩ := List.getElem_of_mem hc
  rw [← gi_at _ hi]
  by_cases e : gi (momL l q) i ≤ h
  · have := a5 i hi e
    constructor <;> intro <;> omega
  · have := a6 i hi (by omega)
    constructor <;> intro <;> omega
/-- The hours of good lists. -/
theorem time_ge {x y : Int} (h : timeB x y = true) : 0 ≤ x ∧ x < y ∧ y ≤ 10000001 := by
  unfold timeB at h
  simp only [Bool.and_eq_true, decide_eq_true_eq] at h
  omega
theorem hrs_in {L : Int} {js : List Int} {l : List Sgn} {q : List Edc} (h1 : sgnsB L js l = true) (h2 : edcsB L js q = true) {x : Int} (hx : x ∈ hrs l q) : 0 ≤ x ∧ x ≤ 10000001 := by
  unfold hrs at hx
  rw [List.mem_append] at hx
  rcases hx with hx | hx
  · obtain ⟨i, hi, hx⟩ := hrS_mem.1 hx
    have hs := sgn_in h1 i hi
    unfold sgnB at hs
    simp only [Bool.and_eq_true, decide_eq_true_eq] at hs
    have ht := time_ge hs.1.1.2
    rcases hx with rfl | rfl | ⟨j, hj, hx⟩
    · omega
    · omega
    · have hc := hs.2
      unfold covB at hc
      simp only [Bool.not_eq_true'] at hc
      have hc2 := (anyK_iff _).1 hc j hj
      simp only [Bool.not_eq_false'] at hc2
      have := time_ge hc2
      omega
  · obtain ⟨i, hi, hx⟩ := hrE_mem.1 hx
    have hs := edc_in h2 i hi
    unfold edcB at hs
    simp only [Bool.and_eq_true, decide_eq_true_eq] at hs
    have ht := time_ge hs.2
    omega
end Go.Proofs.YtjoffnbpaebgjaaGreat

namespace Go.Proofs.YtjoffnbpaebgjaaGreat
set_option linter.unusedVariables false
set_option linter.unusedSimpArgs false
open Go.RowKit

/-- What moments returns. -/
def MomE (Z : List Int) (w : World) (e : Ending) (w' : World) : Prop :=
  ∃ a c, e = .returned (.slice a Z.length c) ∧ w'.ownsRow w.heap.size 3 1 (.slice a Z.length c) Z.length (clI Z) ∧ Below w.heap.size w w'
theorem wf_hour {y : Int} (h : 0 ≤ y ∧ y ≤ 10000001) : (Lit.int .i64 y).wf = true := by
  show (decide (IntKind.i64.min ≤ y) && decide (y ≤ IntKind.i64.max)) = true
  rw [decide_eq_true, decide_eq_true]
  · rfl
  · have : IntKind.i64.max = 9223372036854775807 := rfl
    omega
  · have : IntKind.i64.min = -9223372036854775808 := rfl
    omega
theorem mom_unique {l : List Sgn} {q : List Edc} {Z S : List Int} (hb : ∀ x, x ∈ hrs l q → 0 ≤ x ∧ x ≤ 10000001) (hp : Z.Pairwise (· < ·)) (h1 : ∀ x, x ∈ Z ↔ x ∈ S.filter (fun z => z != 10000001)) (h2 : ∀ x, x ∈ S ↔ x ∈ hrs l q) : Z = momL l q := by
  refine asc_unique hp (mom_asc l q) fun x => ?_
  rw [h1, List.mem_filter, h2, mom_mem]
  constructor
  · rintro ⟨a, b⟩
    have := hb x a
    have : x ≠ 10000001 := by simpa using b
    exact ⟨a, by omega⟩
  · rintro ⟨a, b⟩
    have : x ≠ 10000001 := by omega
    exact ⟨a, by simpa using this⟩
theorem own_base {w : World} {b b' : Nat} {T : TypeId} {z : Nat} {v : Value} {n : Nat} {xs : List Value} (h : w.ownsRow b T z v n xs) (hb : b' ≤ b) : w.ownsRow b' T z v n xs := owns_baseI h hb
set_option linter.unnecessarySimpa false
set_option maxRecDepth 100000 in
set_option maxHeartbeats 4000000 in
theorem moments_r (aa : Option Addr) (l : List Sgn) (cl : Nat) (ae : Option Addr) (q : List Edc) (cq : Nat) (hl : l.length ≤ 100) (hcv : ∀ i, i < l.length → (gs l i).cv.length ≤ 10) (hq : q.length ≤ 50) (hh : ∀ x, x ∈ hrs l q → 0 ≤ x ∧ x ≤ 10000001) (w : World) (hA : SgnS w aa l) (hE : EdS w ae q) :
    Calls Tryz.prog 27 #[.slice aa l.length cl, .slice ae q.length cq] w (MomE (momL l q) w) := by
  obtain ⟨hlen, blk, off, ad, cp, hadr, hc⟩ := hA
  obtain ⟨hlen2, blk2, off2, hadr2, hc2⟩ := hE
  have HC := Lib.hid hc
  have HL : Hid (0 < l.length → aa = some ⟨blk, off, none⟩) := Lib.hid fun h => hadr (List.ne_nil_of_length_pos h)
  have HC2 := Lib.hid hc2
  have HL2 : Hid (0 < q.length → ae = some ⟨blk2, off2, none⟩) := Lib.hid fun h => hadr2 (List.ne_nil_of_length_pos h)
  have HV := Lib.hid hcv
  have HH := Lib.hid hh
  have HHs : Hid (∀ k, k < l.length → (0 ≤ (gs l k).up ∧ (gs l k).up ≤ 10000001) ∧ (0 ≤ (gs l k).dn ∧ (gs l k).dn ≤ 10000001) ∧ ∀ j, j < (gs l k).cv.length → (0 ≤ (gp (gs l k).cv j).1 ∧ (gp (gs l k).cv j).1 ≤ 10000001) ∧ (0 ≤ (gp (gs l k).cv j).2 ∧ (gp (gs l k).cv j).2 ≤ 10000001)) := Lib.hid fun k hk => ⟨hh _ (hrs_sgn hk (.inl rfl)), hh _ (hrs_sgn hk (.inr (.inl rfl))), fun j hj => ⟨hh _ (hrs_sgn hk (.inr (.inr ⟨j, hj, .inl rfl⟩))), hh _ (hrs_sgn hk (.inr (.inr ⟨j, hj, .inr rfl⟩)))⟩⟩
  have HHe : Hid (∀ k, k < q.length → (0 ≤ (ge q k).st ∧ (ge q k).st ≤ 10000001) ∧ (0 ≤ (ge q k).en ∧ (ge q k).en ≤ 10000001)) := Lib.hid fun k hk => ⟨hh _ (hrs_edc hk (.inl rfl)), hh _ (hrs_edc hk (.inr rfl))⟩
  have HLL := Lib.hid hl
  have HQL := Lib.hid hq
  clear hadr hc hadr2 hc2 hcv hh
  have hmm := @run_makeMap Tryz.prog
  have HM0 := Lib.hid (SetM.made Tryz.prog 3 4 w)
  go_enter Tryz.func27, Tryz.ntmps27
  go_wp2_with fail
  go_loopw [15] (fun i wr => ∃ (k n : Nat) (S : List Int), k ≤ l.length ∧ i = .int .i64 k ∧ Below w.heap.size w wr ∧ Hid (SetM Tryz.prog 3 4 wr w.heap.size n (S)) ∧ Hid (n ≤ 22 * k) ∧ Hid (∀ x, x ∈ S ↔ x ∈ hrS l k)) (fun i _ => l.length - (intOf i).toNat)
  case atStart => exact ⟨0, 0, [], Nat.zero_le _, rfl, (Below.refl _ _).alloc (Nat.le_refl _) _, HM0, Lib.hid (Nat.le_refl _), Lib.hid (fun x => by simp [hrS])⟩
  case round =>
    obtain ⟨k, n, S, hk, rfl, hb, HSM, HN, HS⟩ := hrel
    clear hmm HM0
    by_cases hlt : k < l.length
    · obtain rfl := HL.out (by omega)
      obtain ⟨⟨c0, c1, c2, c3, c4, c5, c6, c7⟩, c8, hP⟩ := HC.out k hlt
      replace c0 := cell_below c0 hb
      replace c1 := cell_below c1 hb
      replace c2 := cell_below c2 hb
      replace c3 := cell_below c3 hb
      replace c4 := cell_below c4 hb
      replace c5 := cell_below c5 hb
      replace c6 := cell_below c6 hb
      replace c7 := cell_below c7 hb
      replace c8 := cell_below c8 hb
      obtain ⟨hu, hd, hcs⟩ := HHs.out k hlt
      have hcl := HV.out k hlt
      have HSx : Hid (hrS l (k + 1) = (hrS l k ++ [(gs l k).up, (gs l k).dn]) ++ hrC (gs l k).cv (gs l k).cv.length) := Lib.hid rfl
      have hn := HN.out
      have hl9 := HLL.out
      clear HC HL HHs HV HH HC2 HL2 HHe HN
      generalize ad k = adk at *
      generalize cp k = cpk at *
      generalize gs l k = x at *
      obtain ⟨up, hup⟩ : ∃ u, x.up = u := ⟨_, rfl⟩
      obtain ⟨dn, hdn⟩ : ∃ u, x.dn = u := ⟨_, rfl⟩
      obtain ⟨cv, hcvx⟩ : ∃ u, x.cv = u := ⟨_, rfl⟩
      rw [hup] at c6 hu HSx
      rw [hdn] at c7 hd HSx
      rw [hcvx] at c8 hP hcs hcl HSx
      clear hup hdn hcvx
      obtain ⟨hpl, -, pb, po, hpa, hpc⟩ := hP
      have HPC := Lib.hid hpc
      have HPA : Hid (0 < cv.length → adk = some ⟨pb, po, none⟩) := Lib.hid fun h => hpa (List.ne_nil_of_length_pos h)
      have HCS := Lib.hid hcs
      have Hu := Lib.hid (wf_hour hu)
      have Hd := Lib.hid (wf_hour hd)
      clear hpa hpc hcs hu hd
      go_upto_region 5 with (fail)
      obtain ⟨wB, hwB⟩ : ∃ wB, wr.alloc (.cells #[.int .i64 x.n, .int .i64 x.k, .int .i64 x.v, .int .i64 x.c, .int .i64 x.d, .int .i64 x.rk, .int .i64 up, .int .i64 dn, .slice adk cv.length cpk] 58) = wB := ⟨_, rfl⟩
      have HNE : Hid (wr.heap.size ≠ w.heap.size) := Lib.hid (by have := HSM.out.lt; omega)
      replace HSM := Lib.hid (hwB ▸ HSM.out.alloc (.cells #[.int .i64 x.n, .int .i64 x.k, .int .i64 x.v, .int .i64 x.c, .int .i64 x.d, .int .i64 x.rk, .int .i64 up, .int .i64 dn, .slice adk cv.length cpk] 58))
      have hbB : Below w.heap.size w wB := by rw [← hwB]; exact hb.alloc hb.size _
      have x0 : wB.cell? ⟨wr.heap.size, 0, none⟩ = some (.int .i64 x.n) := by rw [← hwB]; simp [go_sem]
      have x1 : wB.cell? ⟨wr.heap.size, 1, none⟩ = some (.int .i64 x.k) := by rw [← hwB]; simp [go_sem]
      have x2 : wB.cell? ⟨wr.heap.size, 2, none⟩ = some (.int .i64 x.v) := by rw [← hwB]; simp [go_sem]
      have x3 : wB.cell? ⟨wr.heap.size, 3, none⟩ = some (.int .i64 x.c) := by rw [← hwB]; simp [go_sem]
      have x4 : wB.cell? ⟨wr.heap.size, 4, none⟩ = some (.int .i64 x.d) := by rw [← hwB]; simp [go_sem]
      have x5 : wB.cell? ⟨wr.heap.size, 5, none⟩ = some (.int .i64 x.rk) := by rw [← hwB]; simp [go_sem]
      have x6 : wB.cell? ⟨wr.heap.size, 6, none⟩ = some (.int .i64 up) := by rw [← hwB]; simp [go_sem]
      have x7 : wB.cell? ⟨wr.heap.size, 7, none⟩ = some (.int .i64 dn) := by rw [← hwB]; simp [go_sem]
      have x8 : wB.cell? ⟨wr.heap.size, 8, none⟩ = some (.slice adk cv.length cpk) := by rw [← hwB]; simp [go_sem]
      rw [hwB]
      have hzB : wr.heap.size < wB.heap.size := by rw [← hwB]; simp
      clear hwB
      clear c0 c1 c2 c3 c4 c5 c6 c7 c8
      refine wp_region_held_drew (S := fun w' => wB.grownBy w' (some w.heap.size)) (by kernel_rfl) ((World.grownBy.refl wB _).trans ⟨rfl, rfl, rfl, Nat.le_refl _, fun _ _ _ => rfl⟩) (fun hHeld => ?_)
      refine takeU (i := 0) (some 19) (.map (some w.heap.size)) (by kernel_rfl) (by kernel_rfl) (by kernel_rfl) (by kernel_rfl) (by kernel_rfl) (fun _ => by kernel_rfl) (fun _ _ _ h => h) hHeld ?_
      refine takeU (i := 1) (some 20) (.pointer (some ⟨wr.heap.size, 6, none⟩)) (by kernel_rfl) (by kernel_rfl) (by kernel_rfl) (by kernel_rfl) (by kernel_rfl) (fun _ => by kernel_rfl) (fun _ _ _ h => h) hHeld ?_
      refine wpAnyH_take (i := 2) (oi := { dst := some 21, op := Go.Op.load 3 (Go.Operand.tmp 20), type := 3, pos := "hours.go:22", after := #[{ on := 1, ground := Go.Ground.data }], guard := none }) (v := .int .i64 up) rfl (by kernel_rfl) (by kernel_rfl) (by kernel_rfl) (fun _ _ _ h => h) (.inl ⟨by kernel_rfl, fun w9 h9 => by
        clear hHeld
        have d0 := h9.cell (a := ⟨wr.heap.size, 6, none⟩) x6 (fun e => HNE.out (Option.some.inj e))
        clear h9
        go_simp⟩) hHeld ?_
      refine takeU (i := 3) (some 22) (.map (some w.heap.size)) (by kernel_rfl) (by kernel_rfl) (by kernel_rfl) (by kernel_rfl) (by kernel_rfl) (fun _ => by kernel_rfl) (fun _ _ _ h => h) hHeld ?_
      refine takeU (i := 4) (some 23) (.pointer (some ⟨wr.heap.size, 7, none⟩)) (by kernel_rfl) (by kernel_rfl) (by kernel_rfl) (by kernel_rfl) (by kernel_rfl) (fun _ => by kernel_rfl) (fun _ _ _ h => h) hHeld ?_
      refine wpAnyH_take (i := 5) (oi := { dst := some 24, op := Go.Op.load 3 (Go.Operand.tmp 23), type := 3, pos := "hours.go:22", after := #[{ on := 4, ground := Go.Ground.data }, { on := 6, ground := Go.Ground.gcOnly Go.Departure.lateStores }], guard := none }) (v := .int .i64 dn) rfl (by kernel_rfl) (by kernel_rfl) (by kernel_rfl) (fun _ _ _ h => h) (.inl ⟨by kernel_rfl, fun w9 h9 => by
        clear hHeld
        have d0 := h9.cell (a := ⟨wr.heap.size, 7, none⟩) x7 (fun e => HNE.out (Option.some.inj e))
        clear h9
        go_simp⟩) hHeld ?_
      try simp only [Act.put, List.setIfInBounds_toArray, List.set_cons_zero, List.set_cons_succ]
      refine wpAnyH_ready (rs := [6]) (by kernel_rfl) (by simp) ?_
      refine AllReadyH.cons (o := { dst := none, op := Go.Op.mapUpdate 105 (Go.Operand.tmp 19) (Go.Operand.tmp 21) (Go.Operand.const (Go.Value.bool true)), type := 0, pos := "hours.go:22", after := #[{ on := 0, ground := Go.Ground.data }, { on := 2, ground := Go.Ground.data }, { on := 0, ground := Go.Ground.phase }, { on := 1, ground := Go.Ground.phase }, { on := 2, ground := Go.Ground.phase }, { on := 3, ground := Go.Ground.textOnly Go.Departure.lateStores }, { on := 4, ground := Go.Ground.textOnly Go.Departure.lateStores }, { on := 5, ground := Go.Ground.textOnly Go.Departure.lateStores }], guard := none }) rfl (fun K hK => ?_) AllReadyH.nil
      refine step_putS rfl _ _ _ rfl (by rfl) (HSM.out.same rfl) Tryz.underlying3 Tryz.underlying105 Tryz.underlying4 (up) true (by rfl) (by rfl) Hu.out (by unfold maxLen; omega) ?_
      intro w6 hs6 hg6
      refine hK.out _ _ (hHeld.trans hg6) (fun hHeld => ?_)
      have HS6 := Lib.hid hs6
      clear hK K hg6 hs6
      try simp only [Act.put, List.setIfInBounds_toArray, List.set_cons_zero, List.set_cons_succ]
      try simp only [Act.put, List.setIfInBounds_toArray, List.set_cons_zero, List.set_cons_succ]
      refine wpAnyH_ready (rs := [7]) (by kernel_rfl) (by simp) ?_
      refine AllReadyH.cons (o := { dst := none, op := Go.Op.mapUpdate 105 (Go.Operand.tmp 22) (Go.Operand.tmp 24) (Go.Operand.const (Go.Value.bool true)), type := 0, pos := "hours.go:22", after := #[{ on := 3, ground := Go.Ground.data }, { on := 5, ground := Go.Ground.data }, { on := 6, ground := Go.Ground.chain }, { on := 0, ground := Go.Ground.phase }, { on := 1, ground := Go.Ground.phase }, { on := 2, ground := Go.Ground.phase }, { on := 3, ground := Go.Ground.phase }, { on := 4, ground := Go.Ground.phase }, { on := 5, ground := Go.Ground.phase }, { on := 6, ground := Go.Ground.phase }], guard := none }) rfl (fun K hK => ?_) AllReadyH.nil
      refine step_putS rfl _ _ _ rfl (by rfl) HS6.out Tryz.underlying3 Tryz.underlying105 Tryz.underlying4 (dn) true (by rfl) (by rfl) Hd.out (by unfold maxLen; omega) ?_
      intro w7 hs6 hg6
      refine hK.out _ _ (hHeld.trans hg6) (fun hHeld => ?_)
      have HS7 := Lib.hid hs6
      clear hK K hg6 hs6
      try simp only [Act.put, List.setIfInBounds_toArray, List.set_cons_zero, List.set_cons_succ]
      refine wpAnyH_done (by kernel_rfl) ?_ _
      try simp only [Act.put, List.setIfInBounds_toArray, List.set_cons_zero, List.set_cons_succ]
      have x8 := hHeld.cell x8 (fun e => HNE.out (Option.some.inj e))
      have hb7 := hbB.grown hHeld (by have := hbB.size; exact this) (fun z hz => Nat.le_of_eq (Option.some.inj hz))
      clear hHeld HS6 HSM hbB x0 x1 x2 x3 x4 x5 x6 x7 hzB HNE
      go_wp2_with fail
      go_loopw [28] (fun i wr => ∃ (j n2 : Nat) (S2 : List Int), j ≤ cv.length ∧ i = .int .i64 j ∧ Below w.heap.size w wr ∧ Hid (SetM Tryz.prog 3 4 wr w.heap.size n2 (S2)) ∧ Hid (n2 ≤ n + 2 + 2 * j) ∧ Hid (∀ x, x ∈ S2 ↔ x ∈ hrS l k ∨ x = up ∨ x = dn ∨ x ∈ hrC cv j)) (fun i _ => cv.length - (intOf i).toNat)
      case atStart => exact ⟨0, n + 2, _, Nat.zero_le _, rfl, hb7, HS7, Lib.hid (by omega), Lib.hid (fun z => by rw [List.mem_append, List.mem_append, HS.out]; simp [hrC, or_assoc])⟩
      case round =>
        obtain ⟨j, n2, S2, hj, rfl, hb, HSM, HN, HS2⟩ := hrel
        by_cases hjl : j < cv.length
        · obtain rfl := HPA.out (by omega)
          obtain ⟨c0, c1⟩ := HPC.out j hjl
          replace c0 := cell_below c0 hb
          replace c1 := cell_below c1 hb
          obtain ⟨hu, hd⟩ := HCS.out j hjl
          have HSx : Hid (hrC cv (j + 1) = hrC cv j ++ [(gp cv j).1, (gp cv j).2]) := Lib.hid rfl
          have hn2 := HN.out
          clear HPA HPC HCS HN Hu Hd
          generalize (gp cv j).1 = p1 at *
          generalize (gp cv j).2 = p2 at *
          have Hu := Lib.hid (wf_hour hu)
          have Hd := Lib.hid (wf_hour hd)
          clear hu hd
          go_upto_region 9 with (fail)
          obtain ⟨wB, hwB⟩ : ∃ wB, wr.alloc (.cells #[.int .i64 p1, .int .i64 p2] 74) = wB := ⟨_, rfl⟩
          have HNE : Hid (wr.heap.size ≠ w.heap.size) := Lib.hid (by have := HSM.out.lt; omega)
          replace HSM := Lib.hid (hwB ▸ HSM.out.alloc (.cells #[.int .i64 p1, .int .i64 p2] 74))
          have hbB : Below w.heap.size w wB := by rw [← hwB]; exact hb.alloc hb.size _
          have x0 : wB.cell? ⟨wr.heap.size, 0, none⟩ = some (.int .i64 p1) := by rw [← hwB]; simp [go_sem]
          have x1 : wB.cell? ⟨wr.heap.size, 1, none⟩ = some (.int .i64 p2) := by rw [← hwB]; simp [go_sem]
          rw [hwB]
          have hzB : wr.heap.size < wB.heap.size := by rw [← hwB]; simp
          clear hwB
          clear c0 c1
          refine wp_region_held_drew (S := fun w' => wB.grownBy w' (some w.heap.size)) (by kernel_rfl) ((World.grownBy.refl wB _).trans ⟨rfl, rfl, rfl, Nat.le_refl _, fun _ _ _ => rfl⟩) (fun hHeld => ?_)
          refine takeU (i := 0) (some 32) (.map (some w.heap.size)) (by kernel_rfl) (by kernel_rfl) (by kernel_rfl) (by kernel_rfl) (by kernel_rfl) (fun _ => by kernel_rfl) (fun _ _ _ h => h) hHeld ?_
          refine takeU (i := 1) (some 33) (.pointer (some ⟨wr.heap.size, 0, none⟩)) (by kernel_rfl) (by kernel_rfl) (by kernel_rfl) (by kernel_rfl) (by kernel_rfl) (fun _ => by kernel_rfl) (fun _ _ _ h => h) hHeld ?_
          refine wpAnyH_take (i := 2) (oi := { dst := some 34, op := Go.Op.load 3 (Go.Operand.tmp 33), type := 3, pos := "hours.go:24", after := #[{ on := 1, ground := Go.Ground.data }], guard := none }) (v := .int .i64 p1) rfl (by kernel_rfl) (by kernel_rfl) (by kernel_rfl) (fun _ _ _ h => h) (.inl ⟨by kernel_rfl, fun w9 h9 => by
            clear hHeld
            have d0 := h9.cell (a := ⟨wr.heap.size, 0, none⟩) x0 (fun e => HNE.out (Option.some.inj e))
            clear h9
            go_simp⟩) hHeld ?_
          refine takeU (i := 3) (some 35) (.map (some w.heap.size)) (by kernel_rfl) (by kernel_rfl) (by kernel_rfl) (by kernel_rfl) (by kernel_rfl) (fun _ => by kernel_rfl) (fun _ _ _ h => h) hHeld ?_
          refine takeU (i := 4) (some 36) (.pointer (some ⟨wr.heap.size, 1, none⟩)) (by kernel_rfl) (by kernel_rfl) (by kernel_rfl) (by kernel_rfl) (by kernel_rfl) (fun _ => by kernel_rfl) (fun _ _ _ h => h) hHeld ?_
          refine wpAnyH_take (i := 5) (oi := { dst := some 37, op := Go.Op.load 3 (Go.Operand.tmp 36), type := 3, pos := "hours.go:24", after := #[{ on := 4, ground := Go.Ground.data }, { on := 6, ground := Go.Ground.gcOnly Go.Departure.lateStores }], guard := none }) (v := .int .i64 p2) rfl (by kernel_rfl) (by kernel_rfl) (by kernel_rfl) (fun _ _ _ h => h) (.inl ⟨by kernel_rfl, fun w9 h9 => by
            clear hHeld
            have d0 := h9.cell (a := ⟨wr.heap.size, 1, none⟩) x1 (fun e => HNE.out (Option.some.inj e))
            clear h9
            go_simp⟩) hHeld ?_
          try simp only [Act.put, List.setIfInBounds_toArray, List.set_cons_zero, List.set_cons_succ]
          refine wpAnyH_ready (rs := [6]) (by kernel_rfl) (by simp) ?_
          refine AllReadyH.cons (o := { dst := none, op := Go.Op.mapUpdate 105 (Go.Operand.tmp 32) (Go.Operand.tmp 34) (Go.Operand.const (Go.Value.bool true)), type := 0, pos := "hours.go:24", after := #[{ on := 0, ground := Go.Ground.data }, { on := 2, ground := Go.Ground.data }, { on := 0, ground := Go.Ground.phase }, { on := 1, ground := Go.Ground.phase }, { on := 2, ground := Go.Ground.phase }, { on := 3, ground := Go.Ground.textOnly Go.Departure.lateStores }, { on := 4, ground := Go.Ground.textOnly Go.Departure.lateStores }, { on := 5, ground := Go.Ground.textOnly Go.Departure.lateStores }], guard := none }) rfl (fun K hK => ?_) AllReadyH.nil
          refine step_putS rfl _ _ _ rfl (by rfl) (HSM.out.same rfl) Tryz.underlying3 Tryz.underlying105 Tryz.underlying4 (p1) true (by rfl) (by rfl) Hu.out (by unfold maxLen; omega) ?_
          intro w6 hs6 hg6
          refine hK.out _ _ (hHeld.trans hg6) (fun hHeld => ?_)
          have HS6 := Lib.hid hs6
          clear hK K hg6 hs6
          try simp only [Act.put, List.setIfInBounds_toArray, List.set_cons_zero, List.set_cons_succ]
          try simp only [Act.put, List.setIfInBounds_toArray, List.set_cons_zero, List.set_cons_succ]
          refine wpAnyH_ready (rs := [7]) (by kernel_rfl) (by simp) ?_
          refine AllReadyH.cons (o := { dst := none, op := Go.Op.mapUpdate 105 (Go.Operand.tmp 35) (Go.Operand.tmp 37) (Go.Operand.const (Go.Value.bool true)), type := 0, pos := "hours.go:24", after := #[{ on := 3, ground := Go.Ground.data }, { on := 5, ground := Go.Ground.data }, { on := 6, ground := Go.Ground.chain }, { on := 0, ground := Go.Ground.phase }, { on := 1, ground := Go.Ground.phase }, { on := 2, ground := Go.Ground.phase }, { on := 3, ground := Go.Ground.phase }, { on := 4, ground := Go.Ground.phase }, { on := 5, ground := Go.Ground.phase }, { on := 6, ground := Go.Ground.phase }], guard := none }) rfl (fun K hK => ?_) AllReadyH.nil
          refine step_putS rfl _ _ _ rfl (by rfl) HS6.out Tryz.underlying3 Tryz.underlying105 Tryz.underlying4 (p2) true (by rfl) (by rfl) Hd.out (by unfold maxLen; omega) ?_
          intro w7 hs6 hg6
          refine hK.out _ _ (hHeld.trans hg6) (fun hHeld => ?_)
          have HS7 := Lib.hid hs6
          clear hK K hg6 hs6
          try simp only [Act.put, List.setIfInBounds_toArray, List.set_cons_zero, List.set_cons_succ]
          refine wpAnyH_done (by kernel_rfl) ?_ _
          try simp only [Act.put, List.setIfInBounds_toArray, List.set_cons_zero, List.set_cons_succ]
          have hb7 := hbB.grown hHeld (by have := hbB.size; exact this) (fun z hz => Nat.le_of_eq (Option.some.inj hz))
          clear hHeld HS6 HSM hbB x0 x1 hzB HNE
          go_wp2_with fail
          go_roundw
          case rel => exact ⟨j + 1, n2 + 2, _, by omega, by go_num, hb7, HS7, Lib.hid (by omega), Lib.hid (fun z => by rw [List.mem_append, List.mem_append, HS2.out, HSx.out, List.mem_append]; simp [or_assoc])⟩
          case measure => simp [intOf]; omega
        · obtain rfl : j = cv.length := by omega
          have hn2 := HN.out
          clear HN
          go_wp2_with fail
          go_roundw
          case rel => exact ⟨k + 1, n2, S2, by omega, by go_num, hb, HSM, Lib.hid (by omega), Lib.hid (fun z => by rw [HS2.out, HSx.out, List.mem_append, List.mem_append]; simp [or_assoc])⟩
          case measure => simp [intOf]; omega
    · obtain rfl : k = l.length := by omega
      have hn := HN.out
      have hl9 := HLL.out
      have HSl := HS
      clear HN HC HL HHs HV HS
      go_wp2_with fail
      go_loopw [42] (fun i wr => ∃ (k n : Nat) (S : List Int), k ≤ q.length ∧ i = .int .i64 k ∧ Below w.heap.size w wr ∧ Hid (SetM Tryz.prog 3 4 wr w.heap.size n (S)) ∧ Hid (n ≤ 2200 + 2 * k) ∧ Hid (∀ x, x ∈ S ↔ x ∈ hrS l l.length ∨ x ∈ hrE q k)) (fun i _ => q.length - (intOf i).toNat)
      case atStart => exact ⟨0, n, S, Nat.zero_le _, rfl, hb, HSM, Lib.hid (by omega), Lib.hid (fun x => by rw [HSl.out]; simp [hrE])⟩
      case round =>
        obtain ⟨k, n, S, hk, rfl, hb, HSM, HN, HS⟩ := hrel
        clear HSl
        by_cases hlt : k < q.length
        · obtain rfl := HL2.out (by omega)
          obtain ⟨c0, c1, c2, c3, c4, c5, c6, c7⟩ := HC2.out k hlt
          replace c0 := cell_below c0 hb
          replace c1 := cell_below c1 hb
          replace c2 := cell_below c2 hb
          replace c3 := cell_below c3 hb
          replace c4 := cell_below c4 hb
          replace c5 := cell_below c5 hb
          replace c6 := cell_below c6 hb
          replace c7 := cell_below c7 hb
          obtain ⟨hu, hd⟩ := HHe.out k hlt
          have HSx : Hid (hrE q (k + 1) = hrE q k ++ [(ge q k).st, (ge q k).en]) := Lib.hid rfl
          have hn := HN.out
          have hq9 := HQL.out
          clear HC2 HL2 HHe HN HH
          generalize ge q k = y at *
          obtain ⟨st, hup⟩ : ∃ u, y.st = u := ⟨_, rfl⟩
          obtain ⟨en, hdn⟩ : ∃ u, y.en = u := ⟨_, rfl⟩
          rw [hup] at c6 hu HSx
          rw [hdn] at c7 hd HSx
          clear hup hdn
          have Hu := Lib.hid (wf_hour hu)
          have Hd := Lib.hid (wf_hour hd)
          clear hu hd
          go_upto_region 15 with (fail)
          obtain ⟨wB, hwB⟩ : ∃ wB, wr.alloc (.cells #[.int .i64 y.n, .int .i64 y.tp, .int .i64 y.v, .int .i64 y.d, .int .i64 y.fr, .int .i64 y.tt, .int .i64 st, .int .i64 en] 82) = wB := ⟨_, rfl⟩
          have HNE : Hid (wr.heap.size ≠ w.heap.size) := Lib.hid (by have := HSM.out.lt; omega)
          replace HSM := Lib.hid (hwB ▸ HSM.out.alloc (.cells #[.int .i64 y.n, .int .i64 y.tp, .int .i64 y.v, .int .i64 y.d, .int .i64 y.fr, .int .i64 y.tt, .int .i64 st, .int .i64 en] 82))
          have hbB : Below w.heap.size w wB := by rw [← hwB]; exact hb.alloc hb.size _
          have x0 : wB.cell? ⟨wr.heap.size, 0, none⟩ = some (.int .i64 y.n) := by rw [← hwB]; simp [go_sem]
          have x1 : wB.cell? ⟨wr.heap.size, 1, none⟩ = some (.int .i64 y.tp) := by rw [← hwB]; simp [go_sem]
          have x2 : wB.cell? ⟨wr.heap.size, 2, none⟩ = some (.int .i64 y.v) := by rw [← hwB]; simp [go_sem]
          have x3 : wB.cell? ⟨wr.heap.size, 3, none⟩ = some (.int .i64 y.d) := by rw [← hwB]; simp [go_sem]
          have x4 : wB.cell? ⟨wr.heap.size, 4, none⟩ = some (.int .i64 y.fr) := by rw [← hwB]; simp [go_sem]
          have x5 : wB.cell? ⟨wr.heap.size, 5, none⟩ = some (.int .i64 y.tt) := by rw [← hwB]; simp [go_sem]
          have x6 : wB.cell? ⟨wr.heap.size, 6, none⟩ = some (.int .i64 st) := by rw [← hwB]; simp [go_sem]
          have x7 : wB.cell? ⟨wr.heap.size, 7, none⟩ = some (.int .i64 en) := by rw [← hwB]; simp [go_sem]
          rw [hwB]
          have hzB : wr.heap.size < wB.heap.size := by rw [← hwB]; simp
          clear hwB
          clear c0 c1 c2 c3 c4 c5 c6 c7
          refine wp_region_held_drew (S := fun w' => wB.grownBy w' (some w.heap.size)) (by kernel_rfl) ((World.grownBy.refl wB _).trans ⟨rfl, rfl, rfl, Nat.le_refl _, fun _ _ _ => rfl⟩) (fun hHeld => ?_)
          refine takeU (i := 0) (some 46) (.map (some w.heap.size)) (by kernel_rfl) (by kernel_rfl) (by kernel_rfl) (by kernel_rfl) (by kernel_rfl) (fun _ => by kernel_rfl) (fun _ _ _ h => h) hHeld ?_
          refine takeU (i := 1) (some 47) (.pointer (some ⟨wr.heap.size, 6, none⟩)) (by kernel_rfl) (by kernel_rfl) (by kernel_rfl) (by kernel_rfl) (by kernel_rfl) (fun _ => by kernel_rfl) (fun _ _ _ h => h) hHeld ?_
          refine wpAnyH_take (i := 2) (oi := { dst := some 48, op := Go.Op.load 3 (Go.Operand.tmp 47), type := 3, pos := "hours.go:28", after := #[{ on := 1, ground := Go.Ground.data }], guard := none }) (v := .int .i64 st) rfl (by kernel_rfl) (by kernel_rfl) (by kernel_rfl) (fun _ _ _ h => h) (.inl ⟨by kernel_rfl, fun w9 h9 => by
            clear hHeld
            have d0 := h9.cell (a := ⟨wr.heap.size, 6, none⟩) x6 (fun e => HNE.out (Option.some.inj e))
            clear h9
            go_simp⟩) hHeld ?_
          refine takeU (i := 3) (some 49) (.map (some w.heap.size)) (by kernel_rfl) (by kernel_rfl) (by kernel_rfl) (by kernel_rfl) (by kernel_rfl) (fun _ => by kernel_rfl) (fun _ _ _ h => h) hHeld ?_
          refine takeU (i := 4) (some 50) (.pointer (some ⟨wr.heap.size, 7, none⟩)) (by kernel_rfl) (by kernel_rfl) (by kernel_rfl) (by kernel_rfl) (by kernel_rfl) (fun _ => by kernel_rfl) (fun _ _ _ h => h) hHeld ?_
          refine wpAnyH_take (i := 5) (oi := { dst := some 51, op := Go.Op.load 3 (Go.Operand.tmp 50), type := 3, pos := "hours.go:28", after := #[{ on := 4, ground := Go.Ground.data }, { on := 6, ground := Go.Ground.gcOnly Go.Departure.lateStores }], guard := none }) (v := .int .i64 en) rfl (by kernel_rfl) (by kernel_rfl) (by kernel_rfl) (fun _ _ _ h => h) (.inl ⟨by kernel_rfl, fun w9 h9 => by
            clear hHeld
            have d0 := h9.cell (a := ⟨wr.heap.size, 7, none⟩) x7 (fun e => HNE.out (Option.some.inj e))
            clear h9
            go_simp⟩) hHeld ?_
          try simp only [Act.put, List.setIfInBounds_toArray, List.set_cons_zero, List.set_cons_succ]
          refine wpAnyH_ready (rs := [6]) (by kernel_rfl) (by simp) ?_
          refine AllReadyH.cons (o := { dst := none, op := Go.Op.mapUpdate 105 (Go.Operand.tmp 46) (Go.Operand.tmp 48) (Go.Operand.const (Go.Value.bool true)), type := 0, pos := "hours.go:28", after := #[{ on := 0, ground := Go.Ground.data }, { on := 2, ground := Go.Ground.data }, { on := 0, ground := Go.Ground.phase }, { on := 1, ground := Go.Ground.phase }, { on := 2, ground := Go.Ground.phase }, { on := 3, ground := Go.Ground.textOnly Go.Departure.lateStores }, { on := 4, ground := Go.Ground.textOnly Go.Departure.lateStores }, { on := 5, ground := Go.Ground.textOnly Go.Departure.lateStores }], guard := none }) rfl (fun K hK => ?_) AllReadyH.nil
          refine step_putS rfl _ _ _ rfl (by rfl) (HSM.out.same rfl) Tryz.underlying3 Tryz.underlying105 Tryz.underlying4 (st) true (by rfl) (by rfl) Hu.out (by unfold maxLen; omega) ?_
          intro w6 hs6 hg6
          refine hK.out _ _ (hHeld.trans hg6) (fun hHeld => ?_)
          have HS6 := Lib.hid hs6
          clear hK K hg6 hs6
          try simp only [Act.put, List.setIfInBounds_toArray, List.set_cons_zero, List.set_cons_succ]
          try simp only [Act.put, List.setIfInBounds_toArray, List.set_cons_zero, List.set_cons_succ]
          refine wpAnyH_ready (rs := [7]) (by kernel_rfl) (by simp) ?_
          refine AllReadyH.cons (o := { dst := none, op := Go.Op.mapUpdate 105 (Go.Operand.tmp 49) (Go.Operand.tmp 51) (Go.Operand.const (Go.Value.bool true)), type := 0, pos := "hours.go:28", after := #[{ on := 3, ground := Go.Ground.data }, { on := 5, ground := Go.Ground.data }, { on := 6, ground := Go.Ground.chain }, { on := 0, ground := Go.Ground.phase }, { on := 1, ground := Go.Ground.phase }, { on := 2, ground := Go.Ground.phase }, { on := 3, ground := Go.Ground.phase }, { on := 4, ground := Go.Ground.phase }, { on := 5, ground := Go.Ground.phase }, { on := 6, ground := Go.Ground.phase }], guard := none }) rfl (fun K hK => ?_) AllReadyH.nil
          refine step_putS rfl _ _ _ rfl (by rfl) HS6.out Tryz.underlying3 Tryz.underlying105 Tryz.underlying4 (en) true (by rfl) (by rfl) Hd.out (by unfold maxLen; omega) ?_
          intro w7 hs6 hg6
          refine hK.out _ _ (hHeld.trans hg6) (fun hHeld => ?_)
          have HS7 := Lib.hid hs6
          clear hK K hg6 hs6
          try simp only [Act.put, List.setIfInBounds_toArray, List.set_cons_zero, List.set_cons_succ]
          refine wpAnyH_done (by kernel_rfl) ?_ _
          try simp only [Act.put, List.setIfInBounds_toArray, List.set_cons_zero, List.set_cons_succ]
          have hb7 := hbB.grown hHeld (by have := hbB.size; exact this) (fun z hz => Nat.le_of_eq (Option.some.inj hz))
          clear hHeld HS6 HSM hbB x0 x1 x2 x3 x4 x5 x6 x7 hzB HNE
          go_wp2_with fail
          go_roundw
          case rel => exact ⟨k + 1, n + 2, _, by omega, by go_num, hb7, HS7, Lib.hid (by omega), Lib.hid (fun z => by rw [List.mem_append, List.mem_append, HS.out, HSx.out, List.mem_append]; simp [or_assoc])⟩
          case measure => simp [intOf]; omega
        · obtain rfl : k = q.length := by omega
          have hn := HN.out
          have hq9 := HQL.out
          have HU : Hid (∀ Z : List Int, Z.Pairwise (· < ·) → (∀ x, x ∈ Z ↔ x ∈ S.filter (fun z => z != 10000001)) → Z = momL l q) := Lib.hid fun Z h1 h2 => mom_unique HH.out h1 h2 fun x => by rw [HS.out]; unfold hrs; rw [List.mem_append]
          clear HN HS HH HC2 HL2 HHe
          go_wp2_with (first
            | (refine wpList_delS rfl _ _ rfl (by rfl) HSM.out Tryz.underlying3 Tryz.underlying105 10000001 (by rfl) (by decide) ?_; intro w5 hs5 hg5; have HS5 := Lib.hid hs5; have hb5 := hb.grown hg5.grown hb.size (fun z hz => Nat.le_of_eq (Option.some.inj hz)); clear hs5 hg5)
            | (go_at_call 55; refine (keysI_r _ _).mono ?_; rintro e w4 ⟨rfl, h4⟩; have HS4 := Lib.hid (h4 ▸ HS5.out.alloc (.cells #[.map (some w.heap.size)] 105)); have hb4 : Below w.heap.size w w4 := h4 ▸ hb5.alloc hb5.size _; have hc4 : w4.cell? ⟨w5.heap.size, 0, none⟩ = some (.map (some w.heap.size)) := (by rw [h4]; simp [go_sem]); have hz4 : w5.heap.size < w4.heap.size := (by rw [h4]; simp); clear h4)
            | (go_at_call 54; refine (sortedKeys_r w5.heap.size w.heap.size n _ _ HS4.out (by omega) hz4 hc4).mono ?_; rintro e w3 ⟨a3, d3, Z, rfl, ho3, hp3, hm3, hb3⟩; have hZ := HU.out Z hp3 hm3; have HO3 := Lib.hid (own_base ho3 hb4.size); have HZ := Lib.hid hZ; clear ho3 hZ hp3 hm3))
          go_ret
          exact ⟨a3, d3, by rw [← HZ.out]; rfl, by rw [← HZ.out]; exact HO3.out, hb4.trans (hb3.mono hb4.size)⟩
end Go.Proofs.YtjoffnbpaebgjaaGreat

namespace Go.Proofs.YtjoffnbpaebgjaaGreat
set_option linter.unusedVariables false
set_option linter.unusedSimpArgs false
open Go.RowKit

set_option maxRecDepth 100000 in
set_option maxHeartbeats 1000000 in
theorem idxEa_any (aa : Option Addr) (l : List (Int)) (ca : Nat) (lb : Array Value) (p : Nat → Bool) (w : World) (hA : IntsS w aa l)
    (hp : ∀ j W, j < l.length → Below w.heap.size w W → Calls Tryz.prog 107 (#[.int .i64 (gi l j)] ++ lb) W fun e w' => e = .returned (.bool (p j)) ∧ Below W.heap.size W w') :
    Calls Tryz.prog 135 #[.slice aa l.length ca, .func (.func 107) #[] lb] w fun e w' => e = .returned (.int .i64 (idxK p l.length)) ∧ Below w.heap.size w w' := by
  obtain ⟨hlen, -, blk, off, hadr, hc⟩ := hA
  have HP := Lib.hid hp
  have HC := Lib.hid hc
  have HH : Hid (∀ k, k < l.length → p k = true → (∀ j, j < k → p j = false) → idxK p l.length = k) := Lib.hid fun k hk h hb => idxK_hit h hb _ hk
  have HM : Hid ((∀ j, j < l.length → p j = false) → idxK p l.length = -1) := Lib.hid fun h => idxK_miss _ h
  have HL : Hid (0 < l.length → aa = some ⟨blk, off, none⟩) := Lib.hid fun h => hadr (pos_ne (n := 0) h)
  generalize idxK p l.length = R at *
  clear hp hc hadr
  go_enter Tryz.func135, Tryz.ntmps135
  go_wp2_with fail
  go_loopw [8] (fun i wr => ∃ k : Nat, k ≤ l.length ∧ i = .int .i64 k ∧ Below w.heap.size w wr ∧ Hid (∀ j, j < k → p j = false)) (fun i _ => l.length - (intOf i).toNat)
  case atStart => exact ⟨0, Nat.zero_le _, rfl, Below.refl _ _, Lib.hid fun j hj => absurd hj (Nat.not_lt_zero _)⟩
  case round =>
    obtain ⟨k, hk, rfl, hb, HA⟩ := hrel
    by_cases hlt : k < l.length
    · obtain rfl := HL.out (by omega)
      have c0 := cell_below (HC.out k hlt) hb
      have HK := Lib.hid (fun W => HP.out k W hlt)
      have HHk := Lib.hid (HH.out k hlt)
      have HN : Hid (p k = false → ∀ j, j < k + 1 → p j = false) := Lib.hid fun h j hj => by
        by_cases e : j = k
        · subst e; exact h
        · exact HA.out j (by omega)
      clear HP HC HM HL HH
      generalize (gi l k) = x0 at *
      cases hpk : p k with
      | true =>
        have HR := Lib.hid (HHk.out hpk HA.out)
        rw [hpk] at HK
        clear hpk HHk HN
        go_wp2_with fail
        refine (HK.out _ hb).mono ?_
        rintro e w1 ⟨rfl, hb1⟩
        go_wp2_with fail
        go_ret
        rw [HR.out]
        exact ⟨rfl, hb.trans (hb1.mono hb.size)⟩
      | false =>
        have HR := Lib.hid (HN.out hpk)
        rw [hpk] at HK
        clear hpk HHk HN
        go_wp2_with fail
        refine (HK.out _ hb).mono ?_
        rintro e w1 ⟨rfl, hb1⟩
        go_wp2_with fail
        go_roundw
        case rel => exact ⟨k + 1, by omega, by go_num, hb.trans (hb1.mono hb.size), HR⟩
        case measure => simp [intOf]; omega
    · obtain rfl : k = l.length := by omega
      have HR := Lib.hid (HM.out HA.out)
      go_wp2_with fail
      go_ret
      rw [HR.out]
      exact ⟨rfl, hb⟩

set_option maxRecDepth 100000 in
theorem containsEa_any (aa : Option Addr) (l : List (Int)) (ca : Nat) (lb : Array Value) (p : Nat → Bool) (w : World) (hA : IntsS w aa l)
    (hp : ∀ j W, j < l.length → Below w.heap.size w W → Calls Tryz.prog 107 (#[.int .i64 (gi l j)] ++ lb) W fun e w' => e = .returned (.bool (p j)) ∧ Below W.heap.size W w') :
    Calls Tryz.prog 106 #[.slice aa l.length ca, .func (.func 107) #[] lb] w fun e w' => e = .returned (.bool (anyK p l.length)) ∧ Below w.heap.size w w' := by
  have H := Lib.hid (idxEa_any aa l ca lb p w hA hp)
  have hq := Lib.hid (idxK_any p l.length)
  clear hp hA
  generalize idxK p l.length = R at *
  generalize anyK p l.length = B at *
  have hq := hq.out
  subst hq
  go_enter Tryz.func106, Tryz.ntmps106
  go_wp2_with fail
  refine H.out.mono ?_
  rintro e w1 ⟨rfl, hb1⟩
  go_wp2_with fail
  all_goals
    go_ret
    exact ⟨by simp_all, hb1⟩

/-- Is an end one of a topic of which something holds ahead of it? -/
def endP (row : List Pst) (p : Pst) (t : Int) : Bool := endB p.s.k t && (hldL t (p.d - 1) row 0 != 0)
/-- The fault of a sign of a row, or 0. -/
def codP (L : Int) (row : List Pst) (p : Pst) : Int :=
  if p.s.k = 7 then (if p.b = false ∨ L - p.d < p.s.v then 1 else 0)
  else if p.s.k = 6 then (if p.d = L ∨ hldL 1 p.d row 0 ≠ p.s.v then 2 else 0)
  else if p.s.k = 2 ∨ p.s.k = 4 ∨ p.s.k = 5 then (if (endP row p 1 || endP row p 2) = true then 0 else 3)
  else if p.s.k = 1 ∨ p.s.k = 3 then (if p.d = L then 4 else 0) else 0
set_option maxRecDepth 100000 in
set_option maxHeartbeats 2000000 in
theorem endsAny1_r (L : Int) (ar : Option Addr) (row : List Pst) (cr : Nat) (p : Pst) (ad : Option Addr) (cp pb ib : Nat) (t : Int) (hd : -100000 ≤ p.d ∧ p.d ≤ 100000) (w : World) (hR : PstS w ar row) (c1 : w.cell? ⟨pb, 1, none⟩ = some (.int .i64 p.s.k)) (c9 : w.cell? ⟨pb, 9, none⟩ = some (.int .i64 p.d)) (i1 : w.cell? ⟨ib, 1, none⟩ = some (.slice ar row.length cr)) :
    Calls Tryz.prog 107 (#[.int .i64 t] ++ #[.pointer (some ⟨pb, 0, none⟩), .pointer (some ⟨ib, 0, none⟩)]) w fun e w' => e = .returned (.bool (endP row p t)) ∧ Below w.heap.size w w' := by
  change Calls Tryz.prog 107 #[.int .i64 t, .pointer (some ⟨pb, 0, none⟩), .pointer (some ⟨ib, 0, none⟩)] w _
  have HE := Lib.hid (fun W => isEnd_r p.s.k t W)
  have HH := Lib.hid (fun W (hW : Below w.heap.size w W) => holdsAt_r ar row cr t (p.d - 1) W (hR.below hW))
  have HP : Hid (endP row p t = (endB p.s.k t && (hldL t (p.d - 1) row 0 != 0))) := Lib.hid rfl
  generalize hldL t (p.d - 1) row 0 = V at *
  generalize endB p.s.k t = eb at *
  clear hR
  cases eb with
  | false =>
    have hv : Hid (endP row p t = false) := Lib.hid (by rw [HP.out]; rfl)
    clear HP HH
    go_enter Tryz.func107, Tryz.ntmps107
    go_wp2_with (go_at_call 57; refine (HE.out _).mono ?_; rintro e w2 ⟨rfl, rfl⟩)
    go_ret
    exact ⟨by rw [hv.out] <;> rfl, Below.refl _ _⟩
  | true =>
    by_cases h0 : V = 0
    · have hv : Hid (endP row p t = false) := Lib.hid (by rw [HP.out, h0]; rfl)
      have d0 : (V != 0) = false := by rw [h0]; rfl
      clear HP h0
      go_enter Tryz.func107, Tryz.ntmps107
      go_wp2_with (first | (go_at_call 57; refine (HE.out _).mono ?_; rintro e w2 ⟨rfl, rfl⟩) | (go_at_call 33; refine (HH.out _ (Below.refl _ _)).mono ?_; rintro e w3 ⟨rfl, hb3⟩))
      go_ret
      exact ⟨by rw [hv.out] <;> rfl, hb3⟩
    · have d0 : (V != 0) = true := by simp [h0]
      have hv : Hid (endP row p t = true) := Lib.hid (by rw [HP.out, d0]; rfl)
      clear HP h0
      go_enter Tryz.func107, Tryz.ntmps107
      go_wp2_with (first | (go_at_call 57; refine (HE.out _).mono ?_; rintro e w2 ⟨rfl, rfl⟩) | (go_at_call 33; refine (HH.out _ (Below.refl _ _)).mono ?_; rintro e w3 ⟨rfl, hb3⟩))
      go_ret
      exact ⟨by rw [hv.out] <;> rfl, hb3⟩
set_option maxRecDepth 100000 in
set_option maxHeartbeats 2000000 in
theorem endsAny_r (L : Int) (ar : Option Addr) (row : List Pst) (cr : Nat) (p : Pst) (ad : Option Addr) (cp : Nat) (g : Nat) (hd : -100000 ≤ p.d ∧ p.d ≤ 100000) (w : World) (hR : PstS w ar row) (hT : IntsS w (some ⟨g, 0, none⟩) [1, 2]) :
    Calls Tryz.prog 76 #[.agg #[.int .i64 L, .slice ar row.length cr], .agg #[.int .i64 p.s.n, .int .i64 p.s.k, .int .i64 p.s.v, .int .i64 p.s.c, .int .i64 p.s.d, .int .i64 p.s.rk, .int .i64 p.s.up, .int .i64 p.s.dn, .slice ad p.s.cv.length cp, .int .i64 p.d, .int .i64 p.u, .bool p.b], .slice (some ⟨g, 0, none⟩) 2 2] w fun e w' => e = .returned (.bool (endP row p 1 || endP row p 2)) ∧ Below w.heap.size w w' := by
  have HC := Lib.hid (fun W (hW : Below w.heap.size w W) (c1 : W.cell? ⟨w.heap.size + 1, 1, none⟩ = some (.int .i64 p.s.k)) (c9 : W.cell? ⟨w.heap.size + 1, 9, none⟩ = some (.int .i64 p.d)) (i1 : W.cell? ⟨w.heap.size, 1, none⟩ = some (.slice ar row.length cr)) => containsEa_any (some ⟨g, 0, none⟩) [1, 2] 2 #[.pointer (some ⟨w.heap.size + 1, 0, none⟩), .pointer (some ⟨w.heap.size, 0, none⟩)] (fun j => endP row p (gi [1, 2] j)) W (hT.below hW) (fun j W' hj hb' => endsAny1_r L ar row cr p ad cp (w.heap.size + 1) w.heap.size (gi [1, 2] j) hd W' ((hR.below hW).below hb') (cell_below c1 hb') (cell_below c9 hb') (cell_below i1 hb')))
  have HV : Hid (anyK (fun j => endP row p (gi [1, 2] j)) [(1 : Int), 2].length = (endP row p 1 || endP row p 2)) := Lib.hid (by show ((false || endP row p 1) || endP row p 2) = _; rw [Bool.false_or])
  clear hR hT
  go_enter Tryz.func76, Tryz.ntmps76
  go_upto_region 1 with (fail)
  obtain ⟨wB, hwB⟩ : ∃ wB, (w.alloc (.cells #[.int .i64 L, .slice ar row.length cr] 91)).alloc (.cells #[.int .i64 p.s.n, .int .i64 p.s.k, .int .i64 p.s.v, .int .i64 p.s.c, .int .i64 p.s.d, .int .i64 p.s.rk, .int .i64 p.s.up, .int .i64 p.s.dn, .slice ad p.s.cv.length cp, .int .i64 p.d, .int .i64 p.u, .bool p.b] 88) = wB := ⟨_, rfl⟩
  have hb : Below w.heap.size w wB := by rw [← hwB]; exact ((Below.refl _ _).alloc (Nat.le_refl _) _).alloc (by simp) _
  have i0 : wB.cell? ⟨w.heap.size, 0, none⟩ = some (.int .i64 L) := by rw [← hwB]; simp [go_sem]
  have i1 : wB.cell? ⟨w.heap.size, 1, none⟩ = some (.slice ar row.length cr) := by rw [← hwB]; simp [go_sem]
  have x0 : wB.cell? ⟨w.heap.size + 1, 0, none⟩ = some (.int .i64 p.s.n) := by rw [← hwB]; simp [go_sem]
  have x1 : wB.cell? ⟨w.heap.size + 1, 1, none⟩ = some (.int .i64 p.s.k) := by rw [← hwB]; simp [go_sem]
  have x2 : wB.cell? ⟨w.heap.size + 1, 2, none⟩ = some (.int .i64 p.s.v) := by rw [← hwB]; simp [go_sem]
  have x3 : wB.cell? ⟨w.heap.size + 1, 3, none⟩ = some (.int .i64 p.s.c) := by rw [← hwB]; simp [go_sem]
  have x4 : wB.cell? ⟨w.heap.size + 1, 4, none⟩ = some (.int .i64 p.s.d) := by rw [← hwB]; simp [go_sem]
  have x5 : wB.cell? ⟨w.heap.size + 1, 5, none⟩ = some (.int .i64 p.s.rk) := by rw [← hwB]; simp [go_sem]
  have x6 : wB.cell? ⟨w.heap.size + 1, 6, none⟩ = some (.int .i64 p.s.up) := by rw [← hwB]; simp [go_sem]
  have x7 : wB.cell? ⟨w.heap.size + 1, 7, none⟩ = some (.int .i64 p.s.dn) := by rw [← hwB]; simp [go_sem]
  have x8 : wB.cell? ⟨w.heap.size + 1, 8, none⟩ = some (.slice ad p.s.cv.length cp) := by rw [← hwB]; simp [go_sem]
  have x9 : wB.cell? ⟨w.heap.size + 1, 9, none⟩ = some (.int .i64 p.d) := by rw [← hwB]; simp [go_sem]
  have x10 : wB.cell? ⟨w.heap.size + 1, 10, none⟩ = some (.int .i64 p.u) := by rw [← hwB]; simp [go_sem]
  have x11 : wB.cell? ⟨w.heap.size + 1, 11, none⟩ = some (.bool p.b) := by rw [← hwB]; simp [go_sem]
  rw [hwB]
  clear hwB
  have HCc := Lib.hid (HC.out wB hb x1 x9 i1)
  rw [HV.out] at HCc
  clear HC HV x0 x1 x2 x3 x4 x5 x6 x7 x8 x9 x10 x11 i0 i1
  go_wp2_with (go_at_call 106; refine HCc.out.mono ?_; rintro e w2 ⟨rfl, hb2⟩)
  go_ret
  exact ⟨rfl, hb.trans (hb2.mono hb.size)⟩
theorem ex_ints2 (w : World) : IntsS (w.alloc (.cells #[.int .i64 1, .int .i64 2] 3)) (some ⟨w.heap.size, 0, none⟩) [1, 2] := by
  refine ⟨by decide, fun i hi => ?_, w.heap.size, 0, fun _ => rfl, fun i hi => ?_⟩
  · have hi : i < 2 := hi
    by_cases e : i = 0
    · subst e; exact ⟨by decide, by decide⟩
    · obtain rfl : i = 1 := by omega
      exact ⟨by decide, by decide⟩
  · have hi : i < 2 := hi
    by_cases e : i = 0
    · subst e; simp [go_sem]; rfl
    · obtain rfl : i = 1 := by omega
      simp [go_sem]; rfl
set_option maxRecDepth 100000 in
set_option maxHeartbeats 8000000 in
theorem code_r (L : Int) (ar : Option Addr) (row : List Pst) (cr : Nat) (p : Pst) (ad : Option Addr) (cp : Nat) (hL : 0 ≤ L ∧ L ≤ 100000) (hd : -100000 ≤ p.d ∧ p.d ≤ 100000) (hv1 : -100000 ≤ p.s.v ∧ p.s.v ≤ 100000) (w : World) (hR : PstS w ar row) :
    Calls Tryz.prog 44 #[.agg #[.int .i64 L, .slice ar row.length cr], .agg #[.int .i64 p.s.n, .int .i64 p.s.k, .int .i64 p.s.v, .int .i64 p.s.c, .int .i64 p.s.d, .int .i64 p.s.rk, .int .i64 p.s.up, .int .i64 p.s.dn, .slice ad p.s.cv.length cp, .int .i64 p.d, .int .i64 p.u, .bool p.b]] w fun e w' => e = .returned (.int .i64 (codP L row p)) ∧ Below w.heap.size w w' := by
  have HH := Lib.hid (fun W (hW : Below w.heap.size w W) => holdsAt_r ar row cr 1 p.d W (hR.below hW))
  have HE := Lib.hid (fun W g (hW : Below w.heap.size w W) hT => endsAny_r L ar row cr p ad cp g hd W (hR.below hW) hT)
  obtain ⟨V, hV⟩ : ∃ V, hldL 1 p.d row 0 = V := ⟨_, rfl⟩
  have HVe := Lib.hid hV
  rw [hV] at HH
  obtain ⟨eb, heb⟩ : ∃ eb, (endP row p 1 || endP row p 2) = eb := ⟨_, rfl⟩
  have HEe := Lib.hid heb
  rw [heb] at HE
  clear hR hV heb
  by_cases h7 : p.s.k = 7
  · have k7 : (p.s.k == 7) = true := by rw [h7]; rfl
    rcases Bool.eq_false_or_eq_true p.b with hpb | hpb
    rotate_left
    · skip
      have hv : Hid (codP L row p = 1) := Lib.hid (by unfold codP; rw [if_pos h7, if_pos (.inl hpb)])
      have HPB := Lib.hid hpb
      clear h7 HH HE hpb
      go_enter Tryz.func44, Tryz.ntmps44
      go_upto_region 1 with (fail)
      obtain ⟨wB, hwB⟩ : ∃ wB, (w.alloc (.cells #[.int .i64 L, .slice ar row.length cr] 91)).alloc (.cells #[.int .i64 p.s.n, .int .i64 p.s.k, .int .i64 p.s.v, .int .i64 p.s.c, .int .i64 p.s.d, .int .i64 p.s.rk, .int .i64 p.s.up, .int .i64 p.s.dn, .slice ad p.s.cv.length cp, .int .i64 p.d, .int .i64 p.u, .bool p.b] 88) = wB := ⟨_, rfl⟩
      have hb : Below w.heap.size w wB := by rw [← hwB]; exact ((Below.refl _ _).alloc (Nat.le_refl _) _).alloc (by simp) _
      have i0 : wB.cell? ⟨w.heap.size, 0, none⟩ = some (.int .i64 L) := by rw [← hwB]; simp [go_sem]
      have i1 : wB.cell? ⟨w.heap.size, 1, none⟩ = some (.slice ar row.length cr) := by rw [← hwB]; simp [go_sem]
      have x0 : wB.cell? ⟨w.heap.size + 1, 0, none⟩ = some (.int .i64 p.s.n) := by rw [← hwB]; simp [go_sem]
      have x1 : wB.cell? ⟨w.heap.size + 1, 1, none⟩ = some (.int .i64 p.s.k) := by rw [← hwB]; simp [go_sem]
      have x2 : wB.cell? ⟨w.heap.size + 1, 2, none⟩ = some (.int .i64 p.s.v) := by rw [← hwB]; simp [go_sem]
      have x3 : wB.cell? ⟨w.heap.size + 1, 3, none⟩ = some (.int .i64 p.s.c) := by rw [← hwB]; simp [go_sem]
      have x4 : wB.cell? ⟨w.heap.size + 1, 4, none⟩ = some (.int .i64 p.s.d) := by rw [← hwB]; simp [go_sem]
      have x5 : wB.cell? ⟨w.heap.size + 1, 5, none⟩ = some (.int .i64 p.s.rk) := by rw [← hwB]; simp [go_sem]
      have x6 : wB.cell? ⟨w.heap.size + 1, 6, none⟩ = some (.int .i64 p.s.up) := by rw [← hwB]; simp [go_sem]
      have x7 : wB.cell? ⟨w.heap.size + 1, 7, none⟩ = some (.int .i64 p.s.dn) := by rw [← hwB]; simp [go_sem]
      have x8 : wB.cell? ⟨w.heap.size + 1, 8, none⟩ = some (.slice ad p.s.cv.length cp) := by rw [← hwB]; simp [go_sem]
      have x9 : wB.cell? ⟨w.heap.size + 1, 9, none⟩ = some (.int .i64 p.d) := by rw [← hwB]; simp [go_sem]
      have x10 : wB.cell? ⟨w.heap.size + 1, 10, none⟩ = some (.int .i64 p.u) := by rw [← hwB]; simp [go_sem]
      have x11 : wB.cell? ⟨w.heap.size + 1, 11, none⟩ = some (.bool p.b) := by rw [← hwB]; simp [go_sem]
      rw [hwB]
      clear hwB
      rw [HPB.out] at x11
      go_wp2_with fail
      go_ret
      exact ⟨by rw [hv.out] <;> rfl, hb⟩
    · by_cases hvv : L - p.d < p.s.v
      · have hv : Hid (codP L row p = 1) := Lib.hid (by unfold codP; rw [if_pos h7, if_pos (.inr hvv)])
        have HPB := Lib.hid hpb
        clear h7 HH HE hpb
        go_enter Tryz.func44, Tryz.ntmps44
        go_upto_region 1 with (fail)
        obtain ⟨wB, hwB⟩ : ∃ wB, (w.alloc (.cells #[.int .i64 L, .slice ar row.length cr] 91)).alloc (.cells #[.int .i64 p.s.n, .int .i64 p.s.k, .int .i64 p.s.v, .int .i64 p.s.c, .int .i64 p.s.d, .int .i64 p.s.rk, .int .i64 p.s.up, .int .i64 p.s.dn, .slice ad p.s.cv.length cp, .int .i64 p.d, .int .i64 p.u, .bool p.b] 88) = wB := ⟨_, rfl⟩
        have hb : Below w.heap.size w wB := by rw [← hwB]; exact ((Below.refl _ _).alloc (Nat.le_refl _) _).alloc (by simp) _
        have i0 : wB.cell? ⟨w.heap.size, 0, none⟩ = some (.int .i64 L) := by rw [← hwB]; simp [go_sem]
        have i1 : wB.cell? ⟨w.heap.size, 1, none⟩ = some (.slice ar row.length cr) := by rw [← hwB]; simp [go_sem]
        have x0 : wB.cell? ⟨w.heap.size + 1, 0, none⟩ = some (.int .i64 p.s.n) := by rw [← hwB]; simp [go_sem]
        have x1 : wB.cell? ⟨w.heap.size + 1, 1, none⟩ = some (.int .i64 p.s.k) := by rw [← hwB]; simp [go_sem]
        have x2 : wB.cell? ⟨w.heap.size + 1, 2, none⟩ = some (.int .i64 p.s.v) := by rw [← hwB]; simp [go_sem]
        have x3 : wB.cell? ⟨w.heap.size + 1, 3, none⟩ = some (.int .i64 p.s.c) := by rw [← hwB]; simp [go_sem]
        have x4 : wB.cell? ⟨w.heap.size + 1, 4, none⟩ = some (.int .i64 p.s.d) := by rw [← hwB]; simp [go_sem]
        have x5 : wB.cell? ⟨w.heap.size + 1, 5, none⟩ = some (.int .i64 p.s.rk) := by rw [← hwB]; simp [go_sem]
        have x6 : wB.cell? ⟨w.heap.size + 1, 6, none⟩ = some (.int .i64 p.s.up) := by rw [← hwB]; simp [go_sem]
        have x7 : wB.cell? ⟨w.heap.size + 1, 7, none⟩ = some (.int .i64 p.s.dn) := by rw [← hwB]; simp [go_sem]
        have x8 : wB.cell? ⟨w.heap.size + 1, 8, none⟩ = some (.slice ad p.s.cv.length cp) := by rw [← hwB]; simp [go_sem]
        have x9 : wB.cell? ⟨w.heap.size + 1, 9, none⟩ = some (.int .i64 p.d) := by rw [← hwB]; simp [go_sem]
        have x10 : wB.cell? ⟨w.heap.size + 1, 10, none⟩ = some (.int .i64 p.u) := by rw [← hwB]; simp [go_sem]
        have x11 : wB.cell? ⟨w.heap.size + 1, 11, none⟩ = some (.bool p.b) := by rw [← hwB]; simp [go_sem]
        rw [hwB]
        clear hwB
        rw [HPB.out] at x11
        go_wp2_with fail
        go_ret
        exact ⟨by rw [hv.out] <;> rfl, hb⟩
      · have hv : Hid (codP L row p = 0) := Lib.hid (by unfold codP; rw [if_pos h7, if_neg (by rw [hpb]; simp; omega)])
        have HPB := Lib.hid hpb
        clear h7 HH HE hpb
        go_enter Tryz.func44, Tryz.ntmps44
        go_upto_region 1 with (fail)
        obtain ⟨wB, hwB⟩ : ∃ wB, (w.alloc (.cells #[.int .i64 L, .slice ar row.length cr] 91)).alloc (.cells #[.int .i64 p.s.n, .int .i64 p.s.k, .int .i64 p.s.v, .int .i64 p.s.c, .int .i64 p.s.d, .int .i64 p.s.rk, .int .i64 p.s.up, .int .i64 p.s.dn, .slice ad p.s.cv.length cp, .int .i64 p.d, .int .i64 p.u, .bool p.b] 88) = wB := ⟨_, rfl⟩
        have hb : Below w.heap.size w wB := by rw [← hwB]; exact ((Below.refl _ _).alloc (Nat.le_refl _) _).alloc (by simp) _
        have i0 : wB.cell? ⟨w.heap.size, 0, none⟩ = some (.int .i64 L) := by rw [← hwB]; simp [go_sem]
        have i1 : wB.cell? ⟨w.heap.size, 1, none⟩ = some (.slice ar row.length cr) := by rw [← hwB]; simp [go_sem]
        have x0 : wB.cell? ⟨w.heap.size + 1, 0, none⟩ = some (.int .i64 p.s.n) := by rw [← hwB]; simp [go_sem]
        have x1 : wB.cell? ⟨w.heap.size + 1, 1, none⟩ = some (.int .i64 p.s.k) := by rw [← hwB]; simp [go_sem]
        have x2 : wB.cell? ⟨w.heap.size + 1, 2, none⟩ = some (.int .i64 p.s.v) := by rw [← hwB]; simp [go_sem]
        have x3 : wB.cell? ⟨w.heap.size + 1, 3, none⟩ = some (.int .i64 p.s.c) := by rw [← hwB]; simp [go_sem]
        have x4 : wB.cell? ⟨w.heap.size + 1, 4, none⟩ = some (.int .i64 p.s.d) := by rw [← hwB]; simp [go_sem]
        have x5 : wB.cell? ⟨w.heap.size + 1, 5, none⟩ = some (.int .i64 p.s.rk) := by rw [← hwB]; simp [go_sem]
        have x6 : wB.cell? ⟨w.heap.size + 1, 6, none⟩ = some (.int .i64 p.s.up) := by rw [← hwB]; simp [go_sem]
        have x7 : wB.cell? ⟨w.heap.size + 1, 7, none⟩ = some (.int .i64 p.s.dn) := by rw [← hwB]; simp [go_sem]
        have x8 : wB.cell? ⟨w.heap.size + 1, 8, none⟩ = some (.slice ad p.s.cv.length cp) := by rw [← hwB]; simp [go_sem]
        have x9 : wB.cell? ⟨w.heap.size + 1, 9, none⟩ = some (.int .i64 p.d) := by rw [← hwB]; simp [go_sem]
        have x10 : wB.cell? ⟨w.heap.size + 1, 10, none⟩ = some (.int .i64 p.u) := by rw [← hwB]; simp [go_sem]
        have x11 : wB.cell? ⟨w.heap.size + 1, 11, none⟩ = some (.bool p.b) := by rw [← hwB]; simp [go_sem]
        rw [hwB]
        clear hwB
        rw [HPB.out] at x11
        go_wp2_with fail
        go_ret
        exact ⟨by rw [hv.out] <;> rfl, hb⟩
  by_cases h6 : p.s.k = 6
  · have k7 : (p.s.k == 7) = false := beq_false_of_ne h7
    have k6 : (p.s.k == 6) = true := by rw [h6]; rfl
    by_cases hdl : p.d = L
    · have dd : (p.d == L) = true := by rw [hdl]; simp
      have hv : Hid (codP L row p = 2) := Lib.hid (by unfold codP; rw [if_neg h7, if_pos h6, if_pos (.inl hdl)])
      clear h7 h6 hdl HE HH
      go_enter Tryz.func44, Tryz.ntmps44
      go_upto_region 1 with (fail)
      obtain ⟨wB, hwB⟩ : ∃ wB, (w.alloc (.cells #[.int .i64 L, .slice ar row.length cr] 91)).alloc (.cells #[.int .i64 p.s.n, .int .i64 p.s.k, .int .i64 p.s.v, .int .i64 p.s.c, .int .i64 p.s.d, .int .i64 p.s.rk, .int .i64 p.s.up, .int .i64 p.s.dn, .slice ad p.s.cv.length cp, .int .i64 p.d, .int .i64 p.u, .bool p.b] 88) = wB := ⟨_, rfl⟩
      have hb : Below w.heap.size w wB := by rw [← hwB]; exact ((Below.refl _ _).alloc (Nat.le_refl _) _).alloc (by simp) _
      have i0 : wB.cell? ⟨w.heap.size, 0, none⟩ = some (.int .i64 L) := by rw [← hwB]; simp [go_sem]
      have i1 : wB.cell? ⟨w.heap.size, 1, none⟩ = some (.slice ar row.length cr) := by rw [← hwB]; simp [go_sem]
      have x0 : wB.cell? ⟨w.heap.size + 1, 0, none⟩ = some (.int .i64 p.s.n) := by rw [← hwB]; simp [go_sem]
      have x1 : wB.cell? ⟨w.heap.size + 1, 1, none⟩ = some (.int .i64 p.s.k) := by rw [← hwB]; simp [go_sem]
      have x2 : wB.cell? ⟨w.heap.size + 1, 2, none⟩ = some (.int .i64 p.s.v) := by rw [← hwB]; simp [go_sem]
      have x3 : wB.cell? ⟨w.heap.size + 1, 3, none⟩ = some (.int .i64 p.s.c) := by rw [← hwB]; simp [go_sem]
      have x4 : wB.cell? ⟨w.heap.size + 1, 4, none⟩ = some (.int .i64 p.s.d) := by rw [← hwB]; simp [go_sem]
      have x5 : wB.cell? ⟨w.heap.size + 1, 5, none⟩ = some (.int .i64 p.s.rk) := by rw [← hwB]; simp [go_sem]
      have x6 : wB.cell? ⟨w.heap.size + 1, 6, none⟩ = some (.int .i64 p.s.up) := by rw [← hwB]; simp [go_sem]
      have x7 : wB.cell? ⟨w.heap.size + 1, 7, none⟩ = some (.int .i64 p.s.dn) := by rw [← hwB]; simp [go_sem]
      have x8 : wB.cell? ⟨w.heap.size + 1, 8, none⟩ = some (.slice ad p.s.cv.length cp) := by rw [← hwB]; simp [go_sem]
      have x9 : wB.cell? ⟨w.heap.size + 1, 9, none⟩ = some (.int .i64 p.d) := by rw [← hwB]; simp [go_sem]
      have x10 : wB.cell? ⟨w.heap.size + 1, 10, none⟩ = some (.int .i64 p.u) := by rw [← hwB]; simp [go_sem]
      have x11 : wB.cell? ⟨w.heap.size + 1, 11, none⟩ = some (.bool p.b) := by rw [← hwB]; simp [go_sem]
      rw [hwB]
      clear hwB
      have hzi := block_lt i0
      have hzx := block_lt x0
      go_wp2_with fail
      refine wp_region_held_drew (S := fun w' => Below wB.heap.size wB w') (by kernel_rfl) ((Below.refl _ _).drew) (fun hHeld => ?_)
      refine takeU (i := 0) (some 26) (.pointer (some ⟨w.heap.size + 1, 9, none⟩)) (by kernel_rfl) (by kernel_rfl) (by kernel_rfl) (by kernel_rfl) (by kernel_rfl) (fun _ => by kernel_rfl) (fun _ _ _ h => h) hHeld ?_
      refine wpAnyH_take (i := 1) (oi := { dst := some 27, op := Go.Op.load 3 (Go.Operand.tmp 26), type := 3, pos := "fault.go:52", after := #[{ on := 0, ground := Go.Ground.data }], guard := none }) (v := .int .i64 p.d) rfl (by kernel_rfl) (by kernel_rfl) (by kernel_rfl) (fun _ _ _ h => h) (.inl ⟨by kernel_rfl, fun w9 h9 => by
        clear hHeld
        have d0 := (h9.cell (p := ⟨w.heap.size + 1, 9, none⟩) hzx).trans x9
        clear h9
        go_simp⟩) hHeld ?_
      refine takeU (i := 2) (some 28) (.pointer (some ⟨w.heap.size, 0, none⟩)) (by kernel_rfl) (by kernel_rfl) (by kernel_rfl) (by kernel_rfl) (by kernel_rfl) (fun _ => by kernel_rfl) (fun _ _ _ h => h) hHeld ?_
      refine wpAnyH_take (i := 3) (oi := { dst := some 29, op := Go.Op.load 3 (Go.Operand.tmp 28), type := 3, pos := "fault.go:52", after := #[{ on := 2, ground := Go.Ground.data }], guard := none }) (v := .int .i64 L) rfl (by kernel_rfl) (by kernel_rfl) (by kernel_rfl) (fun _ _ _ h => h) (.inl ⟨by kernel_rfl, fun w9 h9 => by
        clear hHeld
        have d0 := (h9.cell (p := ⟨w.heap.size, 0, none⟩) hzi).trans i0
        clear h9
        go_simp⟩) hHeld ?_
      refine wpAnyH_take (i := 4) (oi := { dst := some 30, op := Go.Op.binOp Go.BinOp.eql 3 (Go.Operand.tmp 27) (Go.Operand.tmp 29) 3, type := 4, pos := "fault.go:52", after := #[{ on := 1, ground := Go.Ground.data }, { on := 3, ground := Go.Ground.data }], guard := none }) (v := .bool true) rfl (by kernel_rfl) (by kernel_rfl) (by kernel_rfl) (fun _ _ _ h => h) (.inl ⟨by kernel_rfl, fun w9 h9 => by
        clear hHeld h9
        go_simp⟩) hHeld ?_
      refine takeU (i := 5) (some 31) (.bool true) (by kernel_rfl) (by kernel_rfl) (by kernel_rfl) (by kernel_rfl) (by kernel_rfl) (fun _ => by kernel_rfl) (fun _ _ _ h => h) hHeld ?_
      refine skipU (i := 6) (some 32) (by kernel_rfl) (by kernel_rfl) (by kernel_rfl) (by kernel_rfl) (by kernel_rfl) (fun _ _ _ h => h) hHeld ?_
      refine skipU (i := 7) (some 33) (by kernel_rfl) (by kernel_rfl) (by kernel_rfl) (by kernel_rfl) (by kernel_rfl) (fun _ _ _ h => h) hHeld ?_
      refine skipU (i := 8) (some 34) (by kernel_rfl) (by kernel_rfl) (by kernel_rfl) (by kernel_rfl) (by kernel_rfl) (fun _ _ _ h => h) hHeld ?_
      refine skipU (i := 9) (some 35) (by kernel_rfl) (by kernel_rfl) (by kernel_rfl) (by kernel_rfl) (by kernel_rfl) (fun _ _ _ h => h) hHeld ?_
      refine skipU (i := 10) (some 36) (by kernel_rfl) (by kernel_rfl) (by kernel_rfl) (by kernel_rfl) (by kernel_rfl) (fun _ _ _ h => h) hHeld ?_
      refine skipU (i := 11) (some 37) (by kernel_rfl) (by kernel_rfl) (by kernel_rfl) (by kernel_rfl) (by kernel_rfl) (fun _ _ _ h => h) hHeld ?_
      refine skipU (i := 12) (some 38) (by kernel_rfl) (by kernel_rfl) (by kernel_rfl) (by kernel_rfl) (by kernel_rfl) (fun _ _ _ h => h) hHeld ?_
      refine skipU (i := 13) (some 39) (by kernel_rfl) (by kernel_rfl) (by kernel_rfl) (by kernel_rfl) (by kernel_rfl) (fun _ _ _ h => h) hHeld ?_
      refine skipU (i := 14) (some 40) (by kernel_rfl) (by kernel_rfl) (by kernel_rfl) (by kernel_rfl) (by kernel_rfl) (fun _ _ _ h => h) hHeld ?_
      refine takeU (i := 15) (some 41) (.bool true) (by kernel_rfl) (by kernel_rfl) (by kernel_rfl) (by kernel_rfl) (by kernel_rfl) (fun _ => by kernel_rfl) (fun _ _ _ h => h) hHeld ?_
      refine wpAnyH_done (by kernel_rfl) ?_ _
      try simp only [Act.put, List.setIfInBounds_toArray, List.set_cons_zero, List.set_cons_succ]
      go_wp2_with fail
      go_ret
      exact ⟨by rw [hv.out] <;> rfl, hb.trans (hHeld.mono hb.size)⟩
    · have dd : (p.d == L) = false := beq_false_of_ne hdl
      by_cases hvv : V = p.s.v
      · have d2 : (V != p.s.v) = false := by rw [hvv]; simp
        have hv : Hid (codP L row p = 0) := Lib.hid (by unfold codP; rw [if_neg h7, if_pos h6, if_neg (by rw [HVe.out]; simp [hdl, hvv])])
        clear h7 h6 hdl HE hvv
        go_enter Tryz.func44, Tryz.ntmps44
        go_upto_region 1 with (fail)
        obtain ⟨wB, hwB⟩ : ∃ wB, (w.alloc (.cells #[.int .i64 L, .slice ar row.length cr] 91)).alloc (.cells #[.int .i64 p.s.n, .int .i64 p.s.k, .int .i64 p.s.v, .int .i64 p.s.c, .int .i64 p.s.d, .int .i64 p.s.rk, .int .i64 p.s.up, .int .i64 p.s.dn, .slice ad p.s.cv.length cp, .int .i64 p.d, .int .i64 p.u, .bool p.b] 88) = wB := ⟨_, rfl⟩
        have hb : Below w.heap.size w wB := by rw [← hwB]; exact ((Below.refl _ _).alloc (Nat.le_refl _) _).alloc (by simp) _
        have i0 : wB.cell? ⟨w.heap.size, 0, none⟩ = some (.int .i64 L) := by rw [← hwB]; simp [go_sem]
        have i1 : wB.cell? ⟨w.heap.size, 1, none⟩ = some (.slice ar row.length cr) := by rw [← hwB]; simp [go_sem]
        have x0 : wB.cell? ⟨w.heap.size + 1, 0, none⟩ = some (.int .i64 p.s.n) := by rw [← hwB]; simp [go_sem]
        have x1 : wB.cell? ⟨w.heap.size + 1, 1, none⟩ = some (.int .i64 p.s.k) := by rw [← hwB]; simp [go_sem]
        have x2 : wB.cell? ⟨w.heap.size + 1, 2, none⟩ = some (.int .i64 p.s.v) := by rw [← hwB]; simp [go_sem]
        have x3 : wB.cell? ⟨w.heap.size + 1, 3, none⟩ = some (.int .i64 p.s.c) := by rw [← hwB]; simp [go_sem]
        have x4 : wB.cell? ⟨w.heap.size + 1, 4, none⟩ = some (.int .i64 p.s.d) := by rw [← hwB]; simp [go_sem]
        have x5 : wB.cell? ⟨w.heap.size + 1, 5, none⟩ = some (.int .i64 p.s.rk) := by rw [← hwB]; simp [go_sem]
        have x6 : wB.cell? ⟨w.heap.size + 1, 6, none⟩ = some (.int .i64 p.s.up) := by rw [← hwB]; simp [go_sem]
        have x7 : wB.cell? ⟨w.heap.size + 1, 7, none⟩ = some (.int .i64 p.s.dn) := by rw [← hwB]; simp [go_sem]
        have x8 : wB.cell? ⟨w.heap.size + 1, 8, none⟩ = some (.slice ad p.s.cv.length cp) := by rw [← hwB]; simp [go_sem]
        have x9 : wB.cell? ⟨w.heap.size + 1, 9, none⟩ = some (.int .i64 p.d) := by rw [← hwB]; simp [go_sem]
        have x10 : wB.cell? ⟨w.heap.size + 1, 10, none⟩ = some (.int .i64 p.u) := by rw [← hwB]; simp [go_sem]
        have x11 : wB.cell? ⟨w.heap.size + 1, 11, none⟩ = some (.bool p.b) := by rw [← hwB]; simp [go_sem]
        rw [hwB]
        clear hwB
        have hzi := block_lt i0
        have hzx := block_lt x0
        go_wp2_with fail
        refine wp_region_held_drew (S := fun w' => Below wB.heap.size wB w') (by kernel_rfl) ((Below.refl _ _).drew) (fun hHeld => ?_)
        refine takeU (i := 0) (some 26) (.pointer (some ⟨w.heap.size + 1, 9, none⟩)) (by kernel_rfl) (by kernel_rfl) (by kernel_rfl) (by kernel_rfl) (by kernel_rfl) (fun _ => by kernel_rfl) (fun _ _ _ h => h) hHeld ?_
        refine wpAnyH_take (i := 1) (oi := { dst := some 27, op := Go.Op.load 3 (Go.Operand.tmp 26), type := 3, pos := "fault.go:52", after := #[{ on := 0, ground := Go.Ground.data }], guard := none }) (v := .int .i64 p.d) rfl (by kernel_rfl) (by kernel_rfl) (by kernel_rfl) (fun _ _ _ h => h) (.inl ⟨by kernel_rfl, fun w9 h9 => by
          clear hHeld
          have d0 := (h9.cell (p := ⟨w.heap.size + 1, 9, none⟩) hzx).trans x9
          clear h9
          go_simp⟩) hHeld ?_
        refine takeU (i := 2) (some 28) (.pointer (some ⟨w.heap.size, 0, none⟩)) (by kernel_rfl) (by kernel_rfl) (by kernel_rfl) (by kernel_rfl) (by kernel_rfl) (fun _ => by kernel_rfl) (fun _ _ _ h => h) hHeld ?_
        refine wpAnyH_take (i := 3) (oi := { dst := some 29, op := Go.Op.load 3 (Go.Operand.tmp 28), type := 3, pos := "fault.go:52", after := #[{ on := 2, ground := Go.Ground.data }], guard := none }) (v := .int .i64 L) rfl (by kernel_rfl) (by kernel_rfl) (by kernel_rfl) (fun _ _ _ h => h) (.inl ⟨by kernel_rfl, fun w9 h9 => by
          clear hHeld
          have d0 := (h9.cell (p := ⟨w.heap.size, 0, none⟩) hzi).trans i0
          clear h9
          go_simp⟩) hHeld ?_
        refine wpAnyH_take (i := 4) (oi := { dst := some 30, op := Go.Op.binOp Go.BinOp.eql 3 (Go.Operand.tmp 27) (Go.Operand.tmp 29) 3, type := 4, pos := "fault.go:52", after := #[{ on := 1, ground := Go.Ground.data }, { on := 3, ground := Go.Ground.data }], guard := none }) (v := .bool false) rfl (by kernel_rfl) (by kernel_rfl) (by kernel_rfl) (fun _ _ _ h => h) (.inl ⟨by kernel_rfl, fun w9 h9 => by
          clear hHeld h9
          go_simp⟩) hHeld ?_
        refine takeU (i := 5) (some 31) (.bool false) (by kernel_rfl) (by kernel_rfl) (by kernel_rfl) (by kernel_rfl) (by kernel_rfl) (fun _ => by kernel_rfl) (fun _ _ _ h => h) hHeld ?_
        refine takeU (i := 6) (some 32) (.pointer (some ⟨w.heap.size, 1, none⟩)) (by kernel_rfl) (by kernel_rfl) (by kernel_rfl) (by kernel_rfl) (by kernel_rfl) (fun _ => by kernel_rfl) (fun _ _ _ h => h) hHeld ?_
        refine wpAnyH_take (i := 7) (oi := { dst := some 33, op := Go.Op.load 68 (Go.Operand.tmp 32), type := 68, pos := "fault.go:52", after := #[{ on := 6, ground := Go.Ground.data }, { on := 5, ground := Go.Ground.guard }], guard := some (5, false) }) (v := .slice ar row.length cr) rfl (by kernel_rfl) (by kernel_rfl) (by kernel_rfl) (fun _ _ _ h => h) (.inl ⟨by kernel_rfl, fun w9 h9 => by
          clear hHeld
          have d0 := (h9.cell (p := ⟨w.heap.size, 1, none⟩) hzi).trans i1
          clear h9
          go_simp⟩) hHeld ?_
        refine takeU (i := 8) (some 34) (.pointer (some ⟨w.heap.size + 1, 9, none⟩)) (by kernel_rfl) (by kernel_rfl) (by kernel_rfl) (by kernel_rfl) (by kernel_rfl) (fun _ => by kernel_rfl) (fun _ _ _ h => h) hHeld ?_
        refine wpAnyH_take (i := 9) (oi := { dst := some 35, op := Go.Op.load 3 (Go.Operand.tmp 34), type := 3, pos := "fault.go:52", after := #[{ on := 8, ground := Go.Ground.data }, { on := 5, ground := Go.Ground.guard }], guard := some (5, false) }) (v := .int .i64 p.d) rfl (by kernel_rfl) (by kernel_rfl) (by kernel_rfl) (fun _ _ _ h => h) (.inl ⟨by kernel_rfl, fun w9 h9 => by
          clear hHeld
          have d0 := (h9.cell (p := ⟨w.heap.size + 1, 9, none⟩) hzx).trans x9
          clear h9
          go_simp⟩) hHeld ?_
        refine takeU (i := 11) (some 37) (.pointer (some ⟨w.heap.size + 1, 0, none⟩)) (by kernel_rfl) (by kernel_rfl) (by kernel_rfl) (by kernel_rfl) (by kernel_rfl) (fun _ => by kernel_rfl) (fun _ _ _ h => h) hHeld ?_
        refine takeU (i := 12) (some 38) (.pointer (some ⟨w.heap.size + 1, 2, none⟩)) (by kernel_rfl) (by kernel_rfl) (by kernel_rfl) (by kernel_rfl) (by kernel_rfl) (fun _ => by kernel_rfl) (fun _ _ _ h => h) hHeld ?_
        refine wpAnyH_take (i := 13) (oi := { dst := some 39, op := Go.Op.load 3 (Go.Operand.tmp 38), type := 3, pos := "fault.go:52", after := #[{ on := 12, ground := Go.Ground.data }, { on := 5, ground := Go.Ground.guard }], guard := some (5, false) }) (v := .int .i64 p.s.v) rfl (by kernel_rfl) (by kernel_rfl) (by kernel_rfl) (fun _ _ _ h => h) (.inl ⟨by kernel_rfl, fun w9 h9 => by
          clear hHeld
          have d0 := (h9.cell (p := ⟨w.heap.size + 1, 2, none⟩) hzx).trans x2
          clear h9
          go_simp⟩) hHeld ?_
        try simp only [Act.put, List.setIfInBounds_toArray, List.set_cons_zero, List.set_cons_succ]
        refine wpAnyH_ready (rs := [10]) (by kernel_rfl) (by simp) ?_
        refine AllReadyH.cons (o := { dst := some 36, op := Go.Op.call { callee := Go.Callee.value (Go.Operand.func 33), args := #[Go.Operand.tmp 33, Go.Operand.const (Go.Value.int Go.IntKind.i64 1), Go.Operand.tmp 35], argTypes := #[68, 3, 3] }, type := 3, pos := "fault.go:52", after := #[{ on := 7, ground := Go.Ground.data }, { on := 9, ground := Go.Ground.data }, { on := 5, ground := Go.Ground.chain }, { on := 5, ground := Go.Ground.guard }], guard := some (5, false) }) rfl (fun K hK => ?_) AllReadyH.nil
        go_simp
        go_at_call 33
        refine (HH.out _ (hb.trans (hHeld.mono hb.size))).mono ?_
        rintro e w109 ⟨rfl, hb109⟩
        refine hK.out _ _ (hHeld.trans (hb109.mono hHeld.size)) (fun hHeld => ?_)
        clear hK K hb109
        try simp only [Act.put, List.setIfInBounds_toArray, List.set_cons_zero, List.set_cons_succ]
        refine wpAnyH_take (i := 14) (oi := { dst := some 40, op := Go.Op.binOp Go.BinOp.neq 3 (Go.Operand.tmp 36) (Go.Operand.tmp 39) 3, type := 4, pos := "fault.go:52", after := #[{ on := 10, ground := Go.Ground.data }, { on := 13, ground := Go.Ground.data }, { on := 5, ground := Go.Ground.guard }], guard := some (5, false) }) (v := .bool false) rfl (by kernel_rfl) (by kernel_rfl) (by kernel_rfl) (fun _ _ _ h => h) (.inl ⟨by kernel_rfl, fun w9 h9 => by
          clear hHeld h9
          go_simp⟩) hHeld ?_
        refine takeU (i := 15) (some 41) (.bool false) (by kernel_rfl) (by kernel_rfl) (by kernel_rfl) (by kernel_rfl) (by kernel_rfl) (fun _ => by kernel_rfl) (fun _ _ _ h => h) hHeld ?_
        refine wpAnyH_done (by kernel_rfl) ?_ _
        try simp only [Act.put, List.setIfInBounds_toArray, List.set_cons_zero, List.set_cons_succ]
        go_wp2_with fail
        go_ret
        exact ⟨by rw [hv.out] <;> rfl, hb.trans (hHeld.mono hb.size)⟩
      · have d2 : (V != p.s.v) = true := by simp [hvv]
        have hv : Hid (codP L row p = 2) := Lib.hid (by unfold codP; rw [if_neg h7, if_pos h6, if_pos (.inr (by rw [HVe.out]; exact hvv))])
        clear h7 h6 hdl HE hvv
        go_enter Tryz.func44, Tryz.ntmps44
        go_upto_region 1 with (fail)
        obtain ⟨wB, hwB⟩ : ∃ wB, (w.alloc (.cells #[.int .i64 L, .slice ar row.length cr] 91)).alloc (.cells #[.int .i64 p.s.n, .int .i64 p.s.k, .int .i64 p.s.v, .int .i64 p.s.c, .int .i64 p.s.d, .int .i64 p.s.rk, .int .i64 p.s.up, .int .i64 p.s.dn, .slice ad p.s.cv.length cp, .int .i64 p.d, .int .i64 p.u, .bool p.b] 88) = wB := ⟨_, rfl⟩
        have hb : Below w.heap.size w wB := by rw [← hwB]; exact ((Below.refl _ _).alloc (Nat.le_refl _) _).alloc (by simp) _
        have i0 : wB.cell? ⟨w.heap.size, 0, none⟩ = some (.int .i64 L) := by rw [← hwB]; simp [go_sem]
        have i1 : wB.cell? ⟨w.heap.size, 1, none⟩ = some (.slice ar row.length cr) := by rw [← hwB]; simp [go_sem]
        have x0 : wB.cell? ⟨w.heap.size + 1, 0, none⟩ = some (.int .i64 p.s.n) := by rw [← hwB]; simp [go_sem]
        have x1 : wB.cell? ⟨w.heap.size + 1, 1, none⟩ = some (.int .i64 p.s.k) := by rw [← hwB]; simp [go_sem]
        have x2 : wB.cell? ⟨w.heap.size + 1, 2, none⟩ = some (.int .i64 p.s.v) := by rw [← hwB]; simp [go_sem]
        have x3 : wB.cell? ⟨w.heap.size + 1, 3, none⟩ = some (.int .i64 p.s.c) := by rw [← hwB]; simp [go_sem]
        have x4 : wB.cell? ⟨w.heap.size + 1, 4, none⟩ = some (.int .i64 p.s.d) := by rw [← hwB]; simp [go_sem]
        have x5 : wB.cell? ⟨w.heap.size + 1, 5, none⟩ = some (.int .i64 p.s.rk) := by rw [← hwB]; simp [go_sem]
        have x6 : wB.cell? ⟨w.heap.size + 1, 6, none⟩ = some (.int .i64 p.s.up) := by rw [← hwB]; simp [go_sem]
        have x7 : wB.cell? ⟨w.heap.size + 1, 7, none⟩ = some (.int .i64 p.s.dn) := by rw [← hwB]; simp [go_sem]
        have x8 : wB.cell? ⟨w.heap.size + 1, 8, none⟩ = some (.slice ad p.s.cv.length cp) := by rw [← hwB]; simp [go_sem]
        have x9 : wB.cell? ⟨w.heap.size + 1, 9, none⟩ = some (.int .i64 p.d) := by rw [← hwB]; simp [go_sem]
        have x10 : wB.cell? ⟨w.heap.size + 1, 10, none⟩ = some (.int .i64 p.u) := by rw [← hwB]; simp [go_sem]
        have x11 : wB.cell? ⟨w.heap.size + 1, 11, none⟩ = some (.bool p.b) := by rw [← hwB]; simp [go_sem]
        rw [hwB]
        clear hwB
        have hzi := block_lt i0
        have hzx := block_lt x0
        go_wp2_with fail
        refine wp_region_held_drew (S := fun w' => Below wB.heap.size wB w') (by kernel_rfl) ((Below.refl _ _).drew) (fun hHeld => ?_)
        refine takeU (i := 0) (some 26) (.pointer (some ⟨w.heap.size + 1, 9, none⟩)) (by kernel_rfl) (by kernel_rfl) (by kernel_rfl) (by kernel_rfl) (by kernel_rfl) (fun _ => by kernel_rfl) (fun _ _ _ h => h) hHeld ?_
        refine wpAnyH_take (i := 1) (oi := { dst := some 27, op := Go.Op.load 3 (Go.Operand.tmp 26), type := 3, pos := "fault.go:52", after := #[{ on := 0, ground := Go.Ground.data }], guard := none }) (v := .int .i64 p.d) rfl (by kernel_rfl) (by kernel_rfl) (by kernel_rfl) (fun _ _ _ h => h) (.inl ⟨by kernel_rfl, fun w9 h9 => by
          clear hHeld
          have d0 := (h9.cell (p := ⟨w.heap.size + 1, 9, none⟩) hzx).trans x9
          clear h9
          go_simp⟩) hHeld ?_
        refine takeU (i := 2) (some 28) (.pointer (some ⟨w.heap.size, 0, none⟩)) (by kernel_rfl) (by kernel_rfl) (by kernel_rfl) (by kernel_rfl) (by kernel_rfl) (fun _ => by kernel_rfl) (fun _ _ _ h => h) hHeld ?_
        refine wpAnyH_take (i := 3) (oi := { dst := some 29, op := Go.Op.load 3 (Go.Operand.tmp 28), type := 3, pos := "fault.go:52", after := #[{ on := 2, ground := Go.Ground.data }], guard := none }) (v := .int .i64 L) rfl (by kernel_rfl) (by kernel_rfl) (by kernel_rfl) (fun _ _ _ h => h) (.inl ⟨by kernel_rfl, fun w9 h9 => by
          clear hHeld
          have d0 := (h9.cell (p := ⟨w.heap.size, 0, none⟩) hzi).trans i0
          clear h9
          go_simp⟩) hHeld ?_
        refine wpAnyH_take (i := 4) (oi := { dst := some 30, op := Go.Op.binOp Go.BinOp.eql 3 (Go.Operand.tmp 27) (Go.Operand.tmp 29) 3, type := 4, pos := "fault.go:52", after := #[{ on := 1, ground := Go.Ground.data }, { on := 3, ground := Go.Ground.data }], guard := none }) (v := .bool false) rfl (by kernel_rfl) (by kernel_rfl) (by kernel_rfl) (fun _ _ _ h => h) (.inl ⟨by kernel_rfl, fun w9 h9 => by
          clear hHeld h9
          go_simp⟩) hHeld ?_
        refine takeU (i := 5) (some 31) (.bool false) (by kernel_rfl) (by kernel_rfl) (by kernel_rfl) (by kernel_rfl) (by kernel_rfl) (fun _ => by kernel_rfl) (fun _ _ _ h => h) hHeld ?_
        refine takeU (i := 6) (some 32) (.pointer (some ⟨w.heap.size, 1, none⟩)) (by kernel_rfl) (by kernel_rfl) (by kernel_rfl) (by kernel_rfl) (by kernel_rfl) (fun _ => by kernel_rfl) (fun _ _ _ h => h) hHeld ?_
        refine wpAnyH_take (i := 7) (oi := { dst := some 33, op := Go.Op.load 68 (Go.Operand.tmp 32), type := 68, pos := "fault.go:52", after := #[{ on := 6, ground := Go.Ground.data }, { on := 5, ground := Go.Ground.guard }], guard := some (5, false) }) (v := .slice ar row.length cr) rfl (by kernel_rfl) (by kernel_rfl) (by kernel_rfl) (fun _ _ _ h => h) (.inl ⟨by kernel_rfl, fun w9 h9 => by
          clear hHeld
          have d0 := (h9.cell (p := ⟨w.heap.size, 1, none⟩) hzi).trans i1
          clear h9
          go_simp⟩) hHeld ?_
        refine takeU (i := 8) (some 34) (.pointer (some ⟨w.heap.size + 1, 9, none⟩)) (by kernel_rfl) (by kernel_rfl) (by kernel_rfl) (by kernel_rfl) (by kernel_rfl) (fun _ => by kernel_rfl) (fun _ _ _ h => h) hHeld ?_
        refine wpAnyH_take (i := 9) (oi := { dst := some 35, op := Go.Op.load 3 (Go.Operand.tmp 34), type := 3, pos := "fault.go:52", after := #[{ on := 8, ground := Go.Ground.data }, { on := 5, ground := Go.Ground.guard }], guard := some (5, false) }) (v := .int .i64 p.d) rfl (by kernel_rfl) (by kernel_rfl) (by kernel_rfl) (fun _ _ _ h => h) (.inl ⟨by kernel_rfl, fun w9 h9 => by
          clear hHeld
          have d0 := (h9.cell (p := ⟨w.heap.size + 1, 9, none⟩) hzx).trans x9
          clear h9
          go_simp⟩) hHeld ?_
        refine takeU (i := 11) (some 37) (.pointer (some ⟨w.heap.size + 1, 0, none⟩)) (by kernel_rfl) (by kernel_rfl) (by kernel_rfl) (by kernel_rfl) (by kernel_rfl) (fun _ => by kernel_rfl) (fun _ _ _ h => h) hHeld ?_
        refine takeU (i := 12) (some 38) (.pointer (some ⟨w.heap.size + 1, 2, none⟩)) (by kernel_rfl) (by kernel_rfl) (by kernel_rfl) (by kernel_rfl) (by kernel_rfl) (fun _ => by kernel_rfl) (fun _ _ _ h => h) hHeld ?_
        refine wpAnyH_take (i := 13) (oi := { dst := some 39, op := Go.Op.load 3 (Go.Operand.tmp 38), type := 3, pos := "fault.go:52", after := #[{ on := 12, ground := Go.Ground.data }, { on := 5, ground := Go.Ground.guard }], guard := some (5, false) }) (v := .int .i64 p.s.v) rfl (by kernel_rfl) (by kernel_rfl) (by kernel_rfl) (fun _ _ _ h => h) (.inl ⟨by kernel_rfl, fun w9 h9 => by
          clear hHeld
          have d0 := (h9.cell (p := ⟨w.heap.size + 1, 2, none⟩) hzx).trans x2
          clear h9
          go_simp⟩) hHeld ?_
        try simp only [Act.put, List.setIfInBounds_toArray, List.set_cons_zero, List.set_cons_succ]
        refine wpAnyH_ready (rs := [10]) (by kernel_rfl) (by simp) ?_
        refine AllReadyH.cons (o := { dst := some 36, op := Go.Op.call { callee := Go.Callee.value (Go.Operand.func 33), args := #[Go.Operand.tmp 33, Go.Operand.const (Go.Value.int Go.IntKind.i64 1), Go.Operand.tmp 35], argTypes := #[68, 3, 3] }, type := 3, pos := "fault.go:52", after := #[{ on := 7, ground := Go.Ground.data }, { on := 9, ground := Go.Ground.data }, { on := 5, ground := Go.Ground.chain }, { on := 5, ground := Go.Ground.guard }], guard := some (5, false) }) rfl (fun K hK => ?_) AllReadyH.nil
        go_simp
        go_at_call 33
        refine (HH.out _ (hb.trans (hHeld.mono hb.size))).mono ?_
        rintro e w109 ⟨rfl, hb109⟩
        refine hK.out _ _ (hHeld.trans (hb109.mono hHeld.size)) (fun hHeld => ?_)
        clear hK K hb109
        try simp only [Act.put, List.setIfInBounds_toArray, List.set_cons_zero, List.set_cons_succ]
        refine wpAnyH_take (i := 14) (oi := { dst := some 40, op := Go.Op.binOp Go.BinOp.neq 3 (Go.Operand.tmp 36) (Go.Operand.tmp 39) 3, type := 4, pos := "fault.go:52", after := #[{ on := 10, ground := Go.Ground.data }, { on := 13, ground := Go.Ground.data }, { on := 5, ground := Go.Ground.guard }], guard := some (5, false) }) (v := .bool true) rfl (by kernel_rfl) (by kernel_rfl) (by kernel_rfl) (fun _ _ _ h => h) (.inl ⟨by kernel_rfl, fun w9 h9 => by
          clear hHeld h9
          go_simp⟩) hHeld ?_
        refine takeU (i := 15) (some 41) (.bool true) (by kernel_rfl) (by kernel_rfl) (by kernel_rfl) (by kernel_rfl) (by kernel_rfl) (fun _ => by kernel_rfl) (fun _ _ _ h => h) hHeld ?_
        refine wpAnyH_done (by kernel_rfl) ?_ _
        try simp only [Act.put, List.setIfInBounds_toArray, List.set_cons_zero, List.set_cons_succ]
        go_wp2_with fail
        go_ret
        exact ⟨by rw [hv.out] <;> rfl, hb.trans (hHeld.mono hb.size)⟩
  by_cases h2 : p.s.k = 2
  · cases eb with
    | true =>
      have hv : Hid (codP L row p = 0) := Lib.hid (by unfold codP; rw [if_neg h7, if_neg h6, if_pos (.inl h2), HEe.out, if_pos rfl])
      have k7 : (p.s.k == 7) = false := beq_false_of_ne h7
      have k6 : (p.s.k == 6) = false := beq_false_of_ne h6
      have k2 : (p.s.k == 2) = true := by rw [h2]; rfl
      clear h7 h6 h2 HH
      go_enter Tryz.func44, Tryz.ntmps44
      go_upto_region 1 with (fail)
      obtain ⟨wB, hwB⟩ : ∃ wB, (w.alloc (.cells #[.int .i64 L, .slice ar row.length cr] 91)).alloc (.cells #[.int .i64 p.s.n, .int .i64 p.s.k, .int .i64 p.s.v, .int .i64 p.s.c, .int .i64 p.s.d, .int .i64 p.s.rk, .int .i64 p.s.up, .int .i64 p.s.dn, .slice ad p.s.cv.length cp, .int .i64 p.d, .int .i64 p.u, .bool p.b] 88) = wB := ⟨_, rfl⟩
      have hb : Below w.heap.size w wB := by rw [← hwB]; exact ((Below.refl _ _).alloc (Nat.le_refl _) _).alloc (by simp) _
      have i0 : wB.cell? ⟨w.heap.size, 0, none⟩ = some (.int .i64 L) := by rw [← hwB]; simp [go_sem]
      have i1 : wB.cell? ⟨w.heap.size, 1, none⟩ = some (.slice ar row.length cr) := by rw [← hwB]; simp [go_sem]
      have x0 : wB.cell? ⟨w.heap.size + 1, 0, none⟩ = some (.int .i64 p.s.n) := by rw [← hwB]; simp [go_sem]
      have x1 : wB.cell? ⟨w.heap.size + 1, 1, none⟩ = some (.int .i64 p.s.k) := by rw [← hwB]; simp [go_sem]
      have x2 : wB.cell? ⟨w.heap.size + 1, 2, none⟩ = some (.int .i64 p.s.v) := by rw [← hwB]; simp [go_sem]
      have x3 : wB.cell? ⟨w.heap.size + 1, 3, none⟩ = some (.int .i64 p.s.c) := by rw [← hwB]; simp [go_sem]
      have x4 : wB.cell? ⟨w.heap.size + 1, 4, none⟩ = some (.int .i64 p.s.d) := by rw [← hwB]; simp [go_sem]
      have x5 : wB.cell? ⟨w.heap.size + 1, 5, none⟩ = some (.int .i64 p.s.rk) := by rw [← hwB]; simp [go_sem]
      have x6 : wB.cell? ⟨w.heap.size + 1, 6, none⟩ = some (.int .i64 p.s.up) := by rw [← hwB]; simp [go_sem]
      have x7 : wB.cell? ⟨w.heap.size + 1, 7, none⟩ = some (.int .i64 p.s.dn) := by rw [← hwB]; simp [go_sem]
      have x8 : wB.cell? ⟨w.heap.size + 1, 8, none⟩ = some (.slice ad p.s.cv.length cp) := by rw [← hwB]; simp [go_sem]
      have x9 : wB.cell? ⟨w.heap.size + 1, 9, none⟩ = some (.int .i64 p.d) := by rw [← hwB]; simp [go_sem]
      have x10 : wB.cell? ⟨w.heap.size + 1, 10, none⟩ = some (.int .i64 p.u) := by rw [← hwB]; simp [go_sem]
      have x11 : wB.cell? ⟨w.heap.size + 1, 11, none⟩ = some (.bool p.b) := by rw [← hwB]; simp [go_sem]
      rw [hwB]
      clear hwB
      go_wp2_with (go_at_call 76; refine (HE.out _ (wB.heap.size) ((hb.alloc hb.size _)) (by have := ex_ints2 wB; exact this)).mono ?_; rintro e w2 ⟨rfl, hb2⟩)
      go_ret
      exact ⟨by rw [hv.out] <;> rfl, (hb.alloc hb.size _).trans (hb2.mono (hb.alloc hb.size _).size)⟩
    | false =>
      have hv : Hid (codP L row p = 3) := Lib.hid (by unfold codP; rw [if_neg h7, if_neg h6, if_pos (.inl h2), HEe.out, if_neg (by simp)])
      have k7 : (p.s.k == 7) = false := beq_false_of_ne h7
      have k6 : (p.s.k == 6) = false := beq_false_of_ne h6
      have k2 : (p.s.k == 2) = true := by rw [h2]; rfl
      clear h7 h6 h2 HH
      go_enter Tryz.func44, Tryz.ntmps44
      go_upto_region 1 with (fail)
      obtain ⟨wB, hwB⟩ : ∃ wB, (w.alloc (.cells #[.int .i64 L, .slice ar row.length cr] 91)).alloc (.cells #[.int .i64 p.s.n, .int .i64 p.s.k, .int .i64 p.s.v, .int .i64 p.s.c, .int .i64 p.s.d, .int .i64 p.s.rk, .int .i64 p.s.up, .int .i64 p.s.dn, .slice ad p.s.cv.length cp, .int .i64 p.d, .int .i64 p.u, .bool p.b] 88) = wB := ⟨_, rfl⟩
      have hb : Below w.heap.size w wB := by rw [← hwB]; exact ((Below.refl _ _).alloc (Nat.le_refl _) _).alloc (by simp) _
      have i0 : wB.cell? ⟨w.heap.size, 0, none⟩ = some (.int .i64 L) := by rw [← hwB]; simp [go_sem]
      have i1 : wB.cell? ⟨w.heap.size, 1, none⟩ = some (.slice ar row.length cr) := by rw [← hwB]; simp [go_sem]
      have x0 : wB.cell? ⟨w.heap.size + 1, 0, none⟩ = some (.int .i64 p.s.n) := by rw [← hwB]; simp [go_sem]
      have x1 : wB.cell? ⟨w.heap.size + 1, 1, none⟩ = some (.int .i64 p.s.k) := by rw [← hwB]; simp [go_sem]
      have x2 : wB.cell? ⟨w.heap.size + 1, 2, none⟩ = some (.int .i64 p.s.v) := by rw [← hwB]; simp [go_sem]
      have x3 : wB.cell? ⟨w.heap.size + 1, 3, none⟩ = some (.int .i64 p.s.c) := by rw [← hwB]; simp [go_sem]
      have x4 : wB.cell? ⟨w.heap.size + 1, 4, none⟩ = some (.int .i64 p.s.d) := by rw [← hwB]; simp [go_sem]
      have x5 : wB.cell? ⟨w.heap.size + 1, 5, none⟩ = some (.int .i64 p.s.rk) := by rw [← hwB]; simp [go_sem]
      have x6 : wB.cell? ⟨w.heap.size + 1, 6, none⟩ = some (.int .i64 p.s.up) := by rw [← hwB]; simp [go_sem]
      have x7 : wB.cell? ⟨w.heap.size + 1, 7, none⟩ = some (.int .i64 p.s.dn) := by rw [← hwB]; simp [go_sem]
      have x8 : wB.cell? ⟨w.heap.size + 1, 8, none⟩ = some (.slice ad p.s.cv.length cp) := by rw [← hwB]; simp [go_sem]
      have x9 : wB.cell? ⟨w.heap.size + 1, 9, none⟩ = some (.int .i64 p.d) := by rw [← hwB]; simp [go_sem]
      have x10 : wB.cell? ⟨w.heap.size + 1, 10, none⟩ = some (.int .i64 p.u) := by rw [← hwB]; simp [go_sem]
      have x11 : wB.cell? ⟨w.heap.size + 1, 11, none⟩ = some (.bool p.b) := by rw [← hwB]; simp [go_sem]
      rw [hwB]
      clear hwB
      go_wp2_with (go_at_call 76; refine (HE.out _ (wB.heap.size) ((hb.alloc hb.size _)) (by have := ex_ints2 wB; exact this)).mono ?_; rintro e w2 ⟨rfl, hb2⟩)
      go_ret
      exact ⟨by rw [hv.out] <;> rfl, (hb.alloc hb.size _).trans (hb2.mono (hb.alloc hb.size _).size)⟩
  by_cases h4 : p.s.k = 4
  · cases eb with
    | true =>
      have hv : Hid (codP L row p = 0) := Lib.hid (by unfold codP; rw [if_neg h7, if_neg h6, if_pos (.inr (.inl h4)), HEe.out, if_pos rfl])
      have k7 : (p.s.k == 7) = false := beq_false_of_ne h7
      have k6 : (p.s.k == 6) = false := beq_false_of_ne h6
      have k2 : (p.s.k == 2) = false := beq_false_of_ne h2
      have k4 : (p.s.k == 4) = true := by rw [h4]; rfl
      clear h7 h6 h2 h4 HH
      go_enter Tryz.func44, Tryz.ntmps44
      go_upto_region 1 with (fail)
      obtain ⟨wB, hwB⟩ : ∃ wB, (w.alloc (.cells #[.int .i64 L, .slice ar row.length cr] 91)).alloc (.cells #[.int .i64 p.s.n, .int .i64 p.s.k, .int .i64 p.s.v, .int .i64 p.s.c, .int .i64 p.s.d, .int .i64 p.s.rk, .int .i64 p.s.up, .int .i64 p.s.dn, .slice ad p.s.cv.length cp, .int .i64 p.d, .int .i64 p.u, .bool p.b] 88) = wB := ⟨_, rfl⟩
      have hb : Below w.heap.size w wB := by rw [← hwB]; exact ((Below.refl _ _).alloc (Nat.le_refl _) _).alloc (by simp) _
      have i0 : wB.cell? ⟨w.heap.size, 0, none⟩ = some (.int .i64 L) := by rw [← hwB]; simp [go_sem]
      have i1 : wB.cell? ⟨w.heap.size, 1, none⟩ = some (.slice ar row.length cr) := by rw [← hwB]; simp [go_sem]
      have x0 : wB.cell? ⟨w.heap.size + 1, 0, none⟩ = some (.int .i64 p.s.n) := by rw [← hwB]; simp [go_sem]
      have x1 : wB.cell? ⟨w.heap.size + 1, 1, none⟩ = some (.int .i64 p.s.k) := by rw [← hwB]; simp [go_sem]
      have x2 : wB.cell? ⟨w.heap.size + 1, 2, none⟩ = some (.int .i64 p.s.v) := by rw [← hwB]; simp [go_sem]
      have x3 : wB.cell? ⟨w.heap.size + 1, 3, none⟩ = some (.int .i64 p.s.c) := by rw [← hwB]; simp [go_sem]
      have x4 : wB.cell? ⟨w.heap.size + 1, 4, none⟩ = some (.int .i64 p.s.d) := by rw [← hwB]; simp [go_sem]
      have x5 : wB.cell? ⟨w.heap.size + 1, 5, none⟩ = some (.int .i64 p.s.rk) := by rw [← hwB]; simp [go_sem]
      have x6 : wB.cell? ⟨w.heap.size + 1, 6, none⟩ = some (.int .i64 p.s.up) := by rw [← hwB]; simp [go_sem]
      have x7 : wB.cell? ⟨w.heap.size + 1, 7, none⟩ = some (.int .i64 p.s.dn) := by rw [← hwB]; simp [go_sem]
      have x8 : wB.cell? ⟨w.heap.size + 1, 8, none⟩ = some (.slice ad p.s.cv.length cp) := by rw [← hwB]; simp [go_sem]
      have x9 : wB.cell? ⟨w.heap.size + 1, 9, none⟩ = some (.int .i64 p.d) := by rw [← hwB]; simp [go_sem]
      have x10 : wB.cell? ⟨w.heap.size + 1, 10, none⟩ = some (.int .i64 p.u) := by rw [← hwB]; simp [go_sem]
      have x11 : wB.cell? ⟨w.heap.size + 1, 11, none⟩ = some (.bool p.b) := by rw [← hwB]; simp [go_sem]
      rw [hwB]
      clear hwB
      go_wp2_with (go_at_call 76; refine (HE.out _ (wB.heap.size) ((hb.alloc hb.size _)) (by have := ex_ints2 wB; exact this)).mono ?_; rintro e w2 ⟨rfl, hb2⟩)
      go_ret
      exact ⟨by rw [hv.out] <;> rfl, (hb.alloc hb.size _).trans (hb2.mono (hb.alloc hb.size _).size)⟩
    | false =>
      have hv : Hid (codP L row p = 3) := Lib.hid (by unfold codP; rw [if_neg h7, if_neg h6, if_pos (.inr (.inl h4)), HEe.out, if_neg (by simp)])
      have k7 : (p.s.k == 7) = false := beq_false_of_ne h7
      have k6 : (p.s.k == 6) = false := beq_false_of_ne h6
      have k2 : (p.s.k == 2) = false := beq_false_of_ne h2
      have k4 : (p.s.k == 4) = true := by rw [h4]; rfl
      clear h7 h6 h2 h4 HH
      go_enter Tryz.func44, Tryz.ntmps44
      go_upto_region 1 with (fail)
      obtain ⟨wB, hwB⟩ : ∃ wB, (w.alloc (.cells #[.int .i64 L, .slice ar row.length cr] 91)).alloc (.cells #[.int .i64 p.s.n, .int .i64 p.s.k, .int .i64 p.s.v, .int .i64 p.s.c, .int .i64 p.s.d, .int .i64 p.s.rk, .int .i64 p.s.up, .int .i64 p.s.dn, .slice ad p.s.cv.length cp, .int .i64 p.d, .int .i64 p.u, .bool p.b] 88) = wB := ⟨_, rfl⟩
      have hb : Below w.heap.size w wB := by rw [← hwB]; exact ((Below.refl _ _).alloc (Nat.le_refl _) _).alloc (by simp) _
      have i0 : wB.cell? ⟨w.heap.size, 0, none⟩ = some (.int .i64 L) := by rw [← hwB]; simp [go_sem]
      have i1 : wB.cell? ⟨w.heap.size, 1, none⟩ = some (.slice ar row.length cr) := by rw [← hwB]; simp [go_sem]
      have x0 : wB.cell? ⟨w.heap.size + 1, 0, none⟩ = some (.int .i64 p.s.n) := by rw [← hwB]; simp [go_sem]
      have x1 : wB.cell? ⟨w.heap.size + 1, 1, none⟩ = some (.int .i64 p.s.k) := by rw [← hwB]; simp [go_sem]
      have x2 : wB.cell? ⟨w.heap.size + 1, 2, none⟩ = some (.int .i64 p.s.v) := by rw [← hwB]; simp [go_sem]
      have x3 : wB.cell? ⟨w.heap.size + 1, 3, none⟩ = some (.int .i64 p.s.c) := by rw [← hwB]; simp [go_sem]
      have x4 : wB.cell? ⟨w.heap.size + 1, 4, none⟩ = some (.int .i64 p.s.d) := by rw [← hwB]; simp [go_sem]
      have x5 : wB.cell? ⟨w.heap.size + 1, 5, none⟩ = some (.int .i64 p.s.rk) := by rw [← hwB]; simp [go_sem]
      have x6 : wB.cell? ⟨w.heap.size + 1, 6, none⟩ = some (.int .i64 p.s.up) := by rw [← hwB]; simp [go_sem]
      have x7 : wB.cell? ⟨w.heap.size + 1, 7, none⟩ = some (.int .i64 p.s.dn) := by rw [← hwB]; simp [go_sem]
      have x8 : wB.cell? ⟨w.heap.size + 1, 8, none⟩ = some (.slice ad p.s.cv.length cp) := by rw [← hwB]; simp [go_sem]
      have x9 : wB.cell? ⟨w.heap.size + 1, 9, none⟩ = some (.int .i64 p.d) := by rw [← hwB]; simp [go_sem]
      have x10 : wB.cell? ⟨w.heap.size + 1, 10, none⟩ = some (.int .i64 p.u) := by rw [← hwB]; simp [go_sem]
      have x11 : wB.cell? ⟨w.heap.size + 1, 11, none⟩ = some (.bool p.b) := by rw [← hwB]; simp [go_sem]
      rw [hwB]
      clear hwB
      go_wp2_with (go_at_call 76; refine (HE.out _ (wB.heap.size) ((hb.alloc hb.size _)) (by have := ex_ints2 wB; exact this)).mono ?_; rintro e w2 ⟨rfl, hb2⟩)
      go_ret
      exact ⟨by rw [hv.out] <;> rfl, (hb.alloc hb.size _).trans (hb2.mono (hb.alloc hb.size _).size)⟩
  by_cases h5 : p.s.k = 5
  · cases eb with
    | true =>
      have hv : Hid (codP L row p = 0) := Lib.hid (by unfold codP; rw [if_neg h7, if_neg h6, if_pos (.inr (.inr h5)), HEe.out, if_pos rfl])
      have k7 : (p.s.k == 7) = false := beq_false_of_ne h7
      have k6 : (p.s.k == 6) = false := beq_false_of_ne h6
      have k2 : (p.s.k == 2) = false := beq_false_of_ne h2
      have k4 : (p.s.k == 4) = false := beq_false_of_ne h4
      have k5 : (p.s.k == 5) = true := by rw [h5]; rfl
      clear h7 h6 h2 h4 h5 HH
      go_enter Tryz.func44, Tryz.ntmps44
      go_upto_region 1 with (fail)
      obtain ⟨wB, hwB⟩ : ∃ wB, (w.alloc (.cells #[.int .i64 L, .slice ar row.length cr] 91)).alloc (.cells #[.int .i64 p.s.n, .int .i64 p.s.k, .int .i64 p.s.v, .int .i64 p.s.c, .int .i64 p.s.d, .int .i64 p.s.rk, .int .i64 p.s.up, .int .i64 p.s.dn, .slice ad p.s.cv.length cp, .int .i64 p.d, .int .i64 p.u, .bool p.b] 88) = wB := ⟨_, rfl⟩
      have hb : Below w.heap.size w wB := by rw [← hwB]; exact ((Below.refl _ _).alloc (Nat.le_refl _) _).alloc (by simp) _
      have i0 : wB.cell? ⟨w.heap.size, 0, none⟩ = some (.int .i64 L) := by rw [← hwB]; simp [go_sem]
      have i1 : wB.cell? ⟨w.heap.size, 1, none⟩ = some (.slice ar row.length cr) := by rw [← hwB]; simp [go_sem]
      have x0 : wB.cell? ⟨w.heap.size + 1, 0, none⟩ = some (.int .i64 p.s.n) := by rw [← hwB]; simp [go_sem]
      have x1 : wB.cell? ⟨w.heap.size + 1, 1, none⟩ = some (.int .i64 p.s.k) := by rw [← hwB]; simp [go_sem]
      have x2 : wB.cell? ⟨w.heap.size + 1, 2, none⟩ = some (.int .i64 p.s.v) := by rw [← hwB]; simp [go_sem]
      have x3 : wB.cell? ⟨w.heap.size + 1, 3, none⟩ = some (.int .i64 p.s.c) := by rw [← hwB]; simp [go_sem]
      have x4 : wB.cell? ⟨w.heap.size + 1, 4, none⟩ = some (.int .i64 p.s.d) := by rw [← hwB]; simp [go_sem]
      have x5 : wB.cell? ⟨w.heap.size + 1, 5, none⟩ = some (.int .i64 p.s.rk) := by rw [← hwB]; simp [go_sem]
      have x6 : wB.cell? ⟨w.heap.size + 1, 6, none⟩ = some (.int .i64 p.s.up) := by rw [← hwB]; simp [go_sem]
      have x7 : wB.cell? ⟨w.heap.size + 1, 7, none⟩ = some (.int .i64 p.s.dn) := by rw [← hwB]; simp [go_sem]
      have x8 : wB.cell? ⟨w.heap.size + 1, 8, none⟩ = some (.slice ad p.s.cv.length cp) := by rw [← hwB]; simp [go_sem]
      have x9 : wB.cell? ⟨w.heap.size + 1, 9, none⟩ = some (.int .i64 p.d) := by rw [← hwB]; simp [go_sem]
      have x10 : wB.cell? ⟨w.heap.size + 1, 10, none⟩ = some (.int .i64 p.u) := by rw [← hwB]; simp [go_sem]
      have x11 : wB.cell? ⟨w.heap.size + 1, 11, none⟩ = some (.bool p.b) := by rw [← hwB]; simp [go_sem]
      rw [hwB]
      clear hwB
      go_wp2_with (go_at_call 76; refine (HE.out _ (wB.heap.size) ((hb.alloc hb.size _)) (by have := ex_ints2 wB; exact this)).mono ?_; rintro e w2 ⟨rfl, hb2⟩)
      go_ret
      exact ⟨by rw [hv.out] <;> rfl, (hb.alloc hb.size _).trans (hb2.mono (hb.alloc hb.size _).size)⟩
    | false =>
      have hv : Hid (codP L row p = 3) := Lib.hid (by unfold codP; rw [if_neg h7, if_neg h6, if_pos (.inr (.inr h5)), HEe.out, if_neg (by simp)])
      have k7 : (p.s.k == 7) = false := beq_false_of_ne h7
      have k6 : (p.s.k == 6) = false := beq_false_of_ne h6
      have k2 : (p.s.k == 2) = false := beq_false_of_ne h2
      have k4 : (p.s.k == 4) = false := beq_false_of_ne h4
      have k5 : (p.s.k == 5) = true := by rw [h5]; rfl
      clear h7 h6 h2 h4 h5 HH
      go_enter Tryz.func44, Tryz.ntmps44
      go_upto_region 1 with (fail)
      obtain ⟨wB, hwB⟩ : ∃ wB, (w.alloc (.cells #[.int .i64 L, .slice ar row.length cr] 91)).alloc (.cells #[.int .i64 p.s.n, .int .i64 p.s.k, .int .i64 p.s.v, .int .i64 p.s.c, .int .i64 p.s.d, .int .i64 p.s.rk, .int .i64 p.s.up, .int .i64 p.s.dn, .slice ad p.s.cv.length cp, .int .i64 p.d, .int .i64 p.u, .bool p.b] 88) = wB := ⟨_, rfl⟩
      have hb : Below w.heap.size w wB := by rw [← hwB]; exact ((Below.refl _ _).alloc (Nat.le_refl _) _).alloc (by simp) _
      have i0 : wB.cell? ⟨w.heap.size, 0, none⟩ = some (.int .i64 L) := by rw [← hwB]; simp [go_sem]
      have i1 : wB.cell? ⟨w.heap.size, 1, none⟩ = some (.slice ar row.length cr) := by rw [← hwB]; simp [go_sem]
      have x0 : wB.cell? ⟨w.heap.size + 1, 0, none⟩ = some (.int .i64 p.s.n) := by rw [← hwB]; simp [go_sem]
      have x1 : wB.cell? ⟨w.heap.size + 1, 1, none⟩ = some (.int .i64 p.s.k) := by rw [← hwB]; simp [go_sem]
      have x2 : wB.cell? ⟨w.heap.size + 1, 2, none⟩ = some (.int .i64 p.s.v) := by rw [← hwB]; simp [go_sem]
      have x3 : wB.cell? ⟨w.heap.size + 1, 3, none⟩ = some (.int .i64 p.s.c) := by rw [← hwB]; simp [go_sem]
      have x4 : wB.cell? ⟨w.heap.size + 1, 4, none⟩ = some (.int .i64 p.s.d) := by rw [← hwB]; simp [go_sem]
      have x5 : wB.cell? ⟨w.heap.size + 1, 5, none⟩ = some (.int .i64 p.s.rk) := by rw [← hwB]; simp [go_sem]
      have x6 : wB.cell? ⟨w.heap.size + 1, 6, none⟩ = some (.int .i64 p.s.up) := by rw [← hwB]; simp [go_sem]
      have x7 : wB.cell? ⟨w.heap.size + 1, 7, none⟩ = some (.int .i64 p.s.dn) := by rw [← hwB]; simp [go_sem]
      have x8 : wB.cell? ⟨w.heap.size + 1, 8, none⟩ = some (.slice ad p.s.cv.length cp) := by rw [← hwB]; simp [go_sem]
      have x9 : wB.cell? ⟨w.heap.size + 1, 9, none⟩ = some (.int .i64 p.d) := by rw [← hwB]; simp [go_sem]
      have x10 : wB.cell? ⟨w.heap.size + 1, 10, none⟩ = some (.int .i64 p.u) := by rw [← hwB]; simp [go_sem]
      have x11 : wB.cell? ⟨w.heap.size + 1, 11, none⟩ = some (.bool p.b) := by rw [← hwB]; simp [go_sem]
      rw [hwB]
      clear hwB
      go_wp2_with (go_at_call 76; refine (HE.out _ (wB.heap.size) ((hb.alloc hb.size _)) (by have := ex_ints2 wB; exact this)).mono ?_; rintro e w2 ⟨rfl, hb2⟩)
      go_ret
      exact ⟨by rw [hv.out] <;> rfl, (hb.alloc hb.size _).trans (hb2.mono (hb.alloc hb.size _).size)⟩
  by_cases h1 : p.s.k = 1
  · have k7 : (p.s.k == 7) = false := beq_false_of_ne h7
    have k6 : (p.s.k == 6) = false := beq_false_of_ne h6
    have k2 : (p.s.k == 2) = false := beq_false_of_ne h2
    have k4 : (p.s.k == 4) = false := beq_false_of_ne h4
    have k5 : (p.s.k == 5) = false := beq_false_of_ne h5
    have k1 : (p.s.k == 1) = true := by rw [h1]; rfl
    by_cases hdl : p.d = L
    · have hv : Hid (codP L row p = 4) := Lib.hid (by unfold codP; rw [if_neg h7, if_neg h6, if_neg (by omega), if_pos (.inl h1), if_pos hdl])
      have dd : (p.d == L) = true := by rw [hdl]; simp
      clear hdl HH HE h7 h6 h2 h4 h5 h1
      go_enter Tryz.func44, Tryz.ntmps44
      go_upto_region 1 with (fail)
      obtain ⟨wB, hwB⟩ : ∃ wB, (w.alloc (.cells #[.int .i64 L, .slice ar row.length cr] 91)).alloc (.cells #[.int .i64 p.s.n, .int .i64 p.s.k, .int .i64 p.s.v, .int .i64 p.s.c, .int .i64 p.s.d, .int .i64 p.s.rk, .int .i64 p.s.up, .int .i64 p.s.dn, .slice ad p.s.cv.length cp, .int .i64 p.d, .int .i64 p.u, .bool p.b] 88) = wB := ⟨_, rfl⟩
      have hb : Below w.heap.size w wB := by rw [← hwB]; exact ((Below.refl _ _).alloc (Nat.le_refl _) _).alloc (by simp) _
      have i0 : wB.cell? ⟨w.heap.size, 0, none⟩ = some (.int .i64 L) := by rw [← hwB]; simp [go_sem]
      have i1 : wB.cell? ⟨w.heap.size, 1, none⟩ = some (.slice ar row.length cr) := by rw [← hwB]; simp [go_sem]
      have x0 : wB.cell? ⟨w.heap.size + 1, 0, none⟩ = some (.int .i64 p.s.n) := by rw [← hwB]; simp [go_sem]
      have x1 : wB.cell? ⟨w.heap.size + 1, 1, none⟩ = some (.int .i64 p.s.k) := by rw [← hwB]; simp [go_sem]
      have x2 : wB.cell? ⟨w.heap.size + 1, 2, none⟩ = some (.int .i64 p.s.v) := by rw [← hwB]; simp [go_sem]
      have x3 : wB.cell? ⟨w.heap.size + 1, 3, none⟩ = some (.int .i64 p.s.c) := by rw [← hwB]; simp [go_sem]
      have x4 : wB.cell? ⟨w.heap.size + 1, 4, none⟩ = some (.int .i64 p.s.d) := by rw [← hwB]; simp [go_sem]
      have x5 : wB.cell? ⟨w.heap.size + 1, 5, none⟩ = some (.int .i64 p.s.rk) := by rw [← hwB]; simp [go_sem]
      have x6 : wB.cell? ⟨w.heap.size + 1, 6, none⟩ = some (.int .i64 p.s.up) := by rw [← hwB]; simp [go_sem]
      have x7 : wB.cell? ⟨w.heap.size + 1, 7, none⟩ = some (.int .i64 p.s.dn) := by rw [← hwB]; simp [go_sem]
      have x8 : wB.cell? ⟨w.heap.size + 1, 8, none⟩ = some (.slice ad p.s.cv.length cp) := by rw [← hwB]; simp [go_sem]
      have x9 : wB.cell? ⟨w.heap.size + 1, 9, none⟩ = some (.int .i64 p.d) := by rw [← hwB]; simp [go_sem]
      have x10 : wB.cell? ⟨w.heap.size + 1, 10, none⟩ = some (.int .i64 p.u) := by rw [← hwB]; simp [go_sem]
      have x11 : wB.cell? ⟨w.heap.size + 1, 11, none⟩ = some (.bool p.b) := by rw [← hwB]; simp [go_sem]
      rw [hwB]
      clear hwB
      go_wp2_with fail
      go_ret
      exact ⟨by rw [hv.out] <;> rfl, hb⟩
    · have hv : Hid (codP L row p = 0) := Lib.hid (by unfold codP; rw [if_neg h7, if_neg h6, if_neg (by omega), if_pos (.inl h1), if_neg hdl])
      have dd : (p.d == L) = false := beq_false_of_ne hdl
      clear hdl HH HE h7 h6 h2 h4 h5 h1
      go_enter Tryz.func44, Tryz.ntmps44
      go_upto_region 1 with (fail)
      obtain ⟨wB, hwB⟩ : ∃ wB, (w.alloc (.cells #[.int .i64 L, .slice ar row.length cr] 91)).alloc (.cells #[.int .i64 p.s.n, .int .i64 p.s.k, .int .i64 p.s.v, .int .i64 p.s.c, .int .i64 p.s.d, .int .i64 p.s.rk, .int .i64 p.s.up, .int .i64 p.s.dn, .slice ad p.s.cv.length cp, .int .i64 p.d, .int .i64 p.u, .bool p.b] 88) = wB := ⟨_, rfl⟩
      have hb : Below w.heap.size w wB := by rw [← hwB]; exact ((Below.refl _ _).alloc (Nat.le_refl _) _).alloc (by simp) _
      have i0 : wB.cell? ⟨w.heap.size, 0, none⟩ = some (.int .i64 L) := by rw [← hwB]; simp [go_sem]
      have i1 : wB.cell? ⟨w.heap.size, 1, none⟩ = some (.slice ar row.length cr) := by rw [← hwB]; simp [go_sem]
      have x0 : wB.cell? ⟨w.heap.size + 1, 0, none⟩ = some (.int .i64 p.s.n) := by rw [← hwB]; simp [go_sem]
      have x1 : wB.cell? ⟨w.heap.size + 1, 1, none⟩ = some (.int .i64 p.s.k) := by rw [← hwB]; simp [go_sem]
      have x2 : wB.cell? ⟨w.heap.size + 1, 2, none⟩ = some (.int .i64 p.s.v) := by rw [← hwB]; simp [go_sem]
      have x3 : wB.cell? ⟨w.heap.size + 1, 3, none⟩ = some (.int .i64 p.s.c) := by rw [← hwB]; simp [go_sem]
      have x4 : wB.cell? ⟨w.heap.size + 1, 4, none⟩ = some (.int .i64 p.s.d) := by rw [← hwB]; simp [go_sem]
      have x5 : wB.cell? ⟨w.heap.size + 1, 5, none⟩ = some (.int .i64 p.s.rk) := by rw [← hwB]; simp [go_sem]
      have x6 : wB.cell? ⟨w.heap.size + 1, 6, none⟩ = some (.int .i64 p.s.up) := by rw [← hwB]; simp [go_sem]
      have x7 : wB.cell? ⟨w.heap.size + 1, 7, none⟩ = some (.int .i64 p.s.dn) := by rw [← hwB]; simp [go_sem]
      have x8 : wB.cell? ⟨w.heap.size + 1, 8, none⟩ = some (.slice ad p.s.cv.length cp) := by rw [← hwB]; simp [go_sem]
      have x9 : wB.cell? ⟨w.heap.size + 1, 9, none⟩ = some (.int .i64 p.d) := by rw [← hwB]; simp [go_sem]
      have x10 : wB.cell? ⟨w.heap.size + 1, 10, none⟩ = some (.int .i64 p.u) := by rw [← hwB]; simp [go_sem]
      have x11 : wB.cell? ⟨w.heap.size + 1, 11, none⟩ = some (.bool p.b) := by rw [← hwB]; simp [go_sem]
      rw [hwB]
      clear hwB
      go_wp2_with fail
      go_ret
      exact ⟨by rw [hv.out] <;> rfl, hb⟩
  by_cases h3 : p.s.k = 3
  · have k7 : (p.s.k == 7) = false := beq_false_of_ne h7
    have k6 : (p.s.k == 6) = false := beq_false_of_ne h6
    have k2 : (p.s.k == 2) = false := beq_false_of_ne h2
    have k4 : (p.s.k == 4) = false := beq_false_of_ne h4
    have k5 : (p.s.k == 5) = false := beq_false_of_ne h5
    have k1 : (p.s.k == 1) = false := beq_false_of_ne h1
    have k3 : (p.s.k == 3) = true := by rw [h3]; rfl
    by_cases hdl : p.d = L
    · have hv : Hid (codP L row p = 4) := Lib.hid (by unfold codP; rw [if_neg h7, if_neg h6, if_neg (by omega), if_pos (.inr h3), if_pos hdl])
      have dd : (p.d == L) = true := by rw [hdl]; simp
      clear hdl HH HE h7 h6 h2 h4 h5 h1 h3
      go_enter Tryz.func44, Tryz.ntmps44
      go_upto_region 1 with (fail)
      obtain ⟨wB, hwB⟩ : ∃ wB, (w.alloc (.cells #[.int .i64 L, .slice ar row.length cr] 91)).alloc (.cells #[.int .i64 p.s.n, .int .i64 p.s.k, .int .i64 p.s.v, .int .i64 p.s.c, .int .i64 p.s.d, .int .i64 p.s.rk, .int .i64 p.s.up, .int .i64 p.s.dn, .slice ad p.s.cv.length cp, .int .i64 p.d, .int .i64 p.u, .bool p.b] 88) = wB := ⟨_, rfl⟩
      have hb : Below w.heap.size w wB := by rw [← hwB]; exact ((Below.refl _ _).alloc (Nat.le_refl _) _).alloc (by simp) _
      have i0 : wB.cell? ⟨w.heap.size, 0, none⟩ = some (.int .i64 L) := by rw [← hwB]; simp [go_sem]
      have i1 : wB.cell? ⟨w.heap.size, 1, none⟩ = some (.slice ar row.length cr) := by rw [← hwB]; simp [go_sem]
      have x0 : wB.cell? ⟨w.heap.size + 1, 0, none⟩ = some (.int .i64 p.s.n) := by rw [← hwB]; simp [go_sem]
      have x1 : wB.cell? ⟨w.heap.size + 1, 1, none⟩ = some (.int .i64 p.s.k) := by rw [← hwB]; simp [go_sem]
      have x2 : wB.cell? ⟨w.heap.size + 1, 2, none⟩ = some (.int .i64 p.s.v) := by rw [← hwB]; simp [go_sem]
      have x3 : wB.cell? ⟨w.heap.size + 1, 3, none⟩ = some (.int .i64 p.s.c) := by rw [← hwB]; simp [go_sem]
      have x4 : wB.cell? ⟨w.heap.size + 1, 4, none⟩ = some (.int .i64 p.s.d) := by rw [← hwB]; simp [go_sem]
      have x5 : wB.cell? ⟨w.heap.size + 1, 5, none⟩ = some (.int .i64 p.s.rk) := by rw [← hwB]; simp [go_sem]
      have x6 : wB.cell? ⟨w.heap.size + 1, 6, none⟩ = some (.int .i64 p.s.up) := by rw [← hwB]; simp [go_sem]
      have x7 : wB.cell? ⟨w.heap.size + 1, 7, none⟩ = some (.int .i64 p.s.dn) := by rw [← hwB]; simp [go_sem]
      have x8 : wB.cell? ⟨w.heap.size + 1, 8, none⟩ = some (.slice ad p.s.cv.length cp) := by rw [← hwB]; simp [go_sem]
      have x9 : wB.cell? ⟨w.heap.size + 1, 9, none⟩ = some (.int .i64 p.d) := by rw [← hwB]; simp [go_sem]
      have x10 : wB.cell? ⟨w.heap.size + 1, 10, none⟩ = some (.int .i64 p.u) := by rw [← hwB]; simp [go_sem]
      have x11 : wB.cell? ⟨w.heap.size + 1, 11, none⟩ = some (.bool p.b) := by rw [← hwB]; simp [go_sem]
      rw [hwB]
      clear hwB
      go_wp2_with fail
      go_ret
      exact ⟨by rw [hv.out] <;> rfl, hb⟩
    · have hv : Hid (codP L row p = 0) := Lib.hid (by unfold codP; rw [if_neg h7, if_neg h6, if_neg (by omega), if_pos (.inr h3), if_neg hdl])
      have dd : (p.d == L) = false := beq_false_of_ne hdl
      clear hdl HH HE h7 h6 h2 h4 h5 h1 h3
      go_enter Tryz.func44, Tryz.ntmps44
      go_upto_region 1 with (fail)
      obtain ⟨wB, hwB⟩ : ∃ wB, (w.alloc (.cells #[.int .i64 L, .slice ar row.length cr] 91)).alloc (.cells #[.int .i64 p.s.n, .int .i64 p.s.k, .int .i64 p.s.v, .int .i64 p.s.c, .int .i64 p.s.d, .int .i64 p.s.rk, .int .i64 p.s.up, .int .i64 p.s.dn, .slice ad p.s.cv.length cp, .int .i64 p.d, .int .i64 p.u, .bool p.b] 88) = wB := ⟨_, rfl⟩
      have hb : Below w.heap.size w wB := by rw [← hwB]; exact ((Below.refl _ _).alloc (Nat.le_refl _) _).alloc (by simp) _
      have i0 : wB.cell? ⟨w.heap.size, 0, none⟩ = some (.int .i64 L) := by rw [← hwB]; simp [go_sem]
      have i1 : wB.cell? ⟨w.heap.size, 1, none⟩ = some (.slice ar row.length cr) := by rw [← hwB]; simp [go_sem]
      have x0 : wB.cell? ⟨w.heap.size + 1, 0, none⟩ = some (.int .i64 p.s.n) := by rw [← hwB]; simp [go_sem]
      have x1 : wB.cell? ⟨w.heap.size + 1, 1, none⟩ = some (.int .i64 p.s.k) := by rw [← hwB]; simp [go_sem]
      have x2 : wB.cell? ⟨w.heap.size + 1, 2, none⟩ = some (.int .i64 p.s.v) := by rw [← hwB]; simp [go_sem]
      have x3 : wB.cell? ⟨w.heap.size + 1, 3, none⟩ = some (.int .i64 p.s.c) := by rw [← hwB]; simp [go_sem]
      have x4 : wB.cell? ⟨w.heap.size + 1, 4, none⟩ = some (.int .i64 p.s.d) := by rw [← hwB]; simp [go_sem]
      have x5 : wB.cell? ⟨w.heap.size + 1, 5, none⟩ = some (.int .i64 p.s.rk) := by rw [← hwB]; simp [go_sem]
      have x6 : wB.cell? ⟨w.heap.size + 1, 6, none⟩ = some (.int .i64 p.s.up) := by rw [← hwB]; simp [go_sem]
      have x7 : wB.cell? ⟨w.heap.size + 1, 7, none⟩ = some (.int .i64 p.s.dn) := by rw [← hwB]; simp [go_sem]
      have x8 : wB.cell? ⟨w.heap.size + 1, 8, none⟩ = some (.slice ad p.s.cv.length cp) := by rw [← hwB]; simp [go_sem]
      have x9 : wB.cell? ⟨w.heap.size + 1, 9, none⟩ = some (.int .i64 p.d) := by rw [← hwB]; simp [go_sem]
      have x10 : wB.cell? ⟨w.heap.size + 1, 10, none⟩ = some (.int .i64 p.u) := by rw [← hwB]; simp [go_sem]
      have x11 : wB.cell? ⟨w.heap.size + 1, 11, none⟩ = some (.bool p.b) := by rw [← hwB]; simp [go_sem]
      rw [hwB]
      clear hwB
      go_wp2_with fail
      go_ret
      exact ⟨by rw [hv.out] <;> rfl, hb⟩
  have hv : Hid (codP L row p = 0) := Lib.hid (by unfold codP; rw [if_neg h7, if_neg h6, if_neg (by omega), if_neg (by omega)])
  have k7 : (p.s.k == 7) = false := beq_false_of_ne h7
  have k6 : (p.s.k == 6) = false := beq_false_of_ne h6
  have k2 : (p.s.k == 2) = false := beq_false_of_ne h2
  have k4 : (p.s.k == 4) = false := beq_false_of_ne h4
  have k5 : (p.s.k == 5) = false := beq_false_of_ne h5
  have k1 : (p.s.k == 1) = false := beq_false_of_ne h1
  have k3 : (p.s.k == 3) = false := beq_false_of_ne h3
  clear h7 h6 h2 h4 h5 h1 h3 HH HE
  go_enter Tryz.func44, Tryz.ntmps44
  go_upto_region 1 with (fail)
  obtain ⟨wB, hwB⟩ : ∃ wB, (w.alloc (.cells #[.int .i64 L, .slice ar row.length cr] 91)).alloc (.cells #[.int .i64 p.s.n, .int .i64 p.s.k, .int .i64 p.s.v, .int .i64 p.s.c, .int .i64 p.s.d, .int .i64 p.s.rk, .int .i64 p.s.up, .int .i64 p.s.dn, .slice ad p.s.cv.length cp, .int .i64 p.d, .int .i64 p.u, .bool p.b] 88) = wB := ⟨_, rfl⟩
  have hb : Below w.heap.size w wB := by rw [← hwB]; exact ((Below.refl _ _).alloc (Nat.le_refl _) _).alloc (by simp) _
  have i0 : wB.cell? ⟨w.heap.size, 0, none⟩ = some (.int .i64 L) := by rw [← hwB]; simp [go_sem]
  have i1 : wB.cell? ⟨w.heap.size, 1, none⟩ = some (.slice ar row.length cr) := by rw [← hwB]; simp [go_sem]
  have x0 : wB.cell? ⟨w.heap.size + 1, 0, none⟩ = some (.int .i64 p.s.n) := by rw [← hwB]; simp [go_sem]
  have x1 : wB.cell? ⟨w.heap.size + 1, 1, none⟩ = some (.int .i64 p.s.k) := by rw [← hwB]; simp [go_sem]
  have x2 : wB.cell? ⟨w.heap.size + 1, 2, none⟩ = some (.int .i64 p.s.v) := by rw [← hwB]; simp [go_sem]
  have x3 : wB.cell? ⟨w.heap.size + 1, 3, none⟩ = some (.int .i64 p.s.c) := by rw [← hwB]; simp [go_sem]
  have x4 : wB.cell? ⟨w.heap.size + 1, 4, none⟩ = some (.int .i64 p.s.d) := by rw [← hwB]; simp [go_sem]
  have x5 : wB.cell? ⟨w.heap.size + 1, 5, none⟩ = some (.int .i64 p.s.rk) := by rw [← hwB]; simp [go_sem]
  have x6 : wB.cell? ⟨w.heap.size + 1, 6, none⟩ = some (.int .i64 p.s.up) := by rw [← hwB]; simp [go_sem]
  have x7 : wB.cell? ⟨w.heap.size + 1, 7, none⟩ = some (.int .i64 p.s.dn) := by rw [← hwB]; simp [go_sem]
  have x8 : wB.cell? ⟨w.heap.size + 1, 8, none⟩ = some (.slice ad p.s.cv.length cp) := by rw [← hwB]; simp [go_sem]
  have x9 : wB.cell? ⟨w.heap.size + 1, 9, none⟩ = some (.int .i64 p.d) := by rw [← hwB]; simp [go_sem]
  have x10 : wB.cell? ⟨w.heap.size + 1, 10, none⟩ = some (.int .i64 p.u) := by rw [← hwB]; simp [go_sem]
  have x11 : wB.cell? ⟨w.heap.size + 1, 11, none⟩ = some (.bool p.b) := by rw [← hwB]; simp [go_sem]
  rw [hwB]
  clear hwB
  go_wp2_with fail
  go_ret
  exact ⟨by rw [hv.out] <;> rfl, hb⟩
end Go.Proofs.YtjoffnbpaebgjaaGreat

namespace Go.Proofs
open Go.Shelf
def Tryz.laysSortF_ren : Go.Shelf.Ren := ⟨fun | 6 => 45 | 15 => 78 | 14 => 77 | 28 => 116 | 29 => 117 | 20 => 108 | 21 => 109 | 22 => 110 | 23 => 111 | 24 => 112 | 25 => 113 | 26 => 114 | 27 => 115 | 46 => 136 | 47 => 137 | 48 => 138 | 49 => 139 | 50 => 140 | 57 => 153 | n => n, fun | 22 => 51 | 24 => 96 | 25 => 97 | 3 => 3 | 39 => 44 | 0 => 0 | 53 => 43 | 55 => 155 | 4 => 4 | 46 => 147 | 45 => 146 | 50 => 151 | 5 => 5 | 9 => 9 | 66 => 167 | 70 => 171 | 76 => 180 | 77 => 181 | n => n, fun | n => n⟩
theorem Tryz.laysSortF : Go.Proofs.SlLaysF0.n6 Tryz.prog Tryz.laysSortF_ren := {
  mixed := by kernel_rfl
  f6 := ⟨Tryz.f45.name, by decide, Tryz.func45.trans (congrArg some (by kernel_rfl))⟩
  f14 := ⟨Tryz.f77.name, by decide, Tryz.func77.trans (congrArg some (by kernel_rfl))⟩
  f15 := Tryz.func78.trans (congrArg some (by kernel_rfl))
  f20 := ⟨Tryz.f108.name, by decide, Tryz.func108.trans (congrArg some (by kernel_rfl))⟩
  f21 := ⟨Tryz.f109.name, by decide, Tryz.func109.trans (congrArg some (by kernel_rfl))⟩
  f22 := ⟨Tryz.f110.name, by decide, Tryz.func110.trans (congrArg some (by kernel_rfl))⟩
  f23 := ⟨Tryz.f111.name, by decide, Tryz.func111.trans (congrArg some (by kernel_rfl))⟩
  f24 := ⟨Tryz.f112.name, by decide, Tryz.func112.trans (congrArg some (by kernel_rfl))⟩
  f25 := ⟨Tryz.f113.name, by decide, Tryz.func113.trans (congrArg some (by kernel_rfl))⟩
  f26 := ⟨Tryz.f114.name, by decide, Tryz.func114.trans (congrArg some (by kernel_rfl))⟩
  f27 := ⟨Tryz.f115.name, by decide, Tryz.func115.trans (congrArg some (by kernel_rfl))⟩
  f28 := Tryz.func116.trans (congrArg some (by kernel_rfl))
  f29 := Tryz.func117.trans (congrArg some (by kernel_rfl))
  f46 := ⟨Tryz.f136.name, by decide, Tryz.func136.trans (congrArg some (by kernel_rfl))⟩
  f47 := Tryz.func137.trans (congrArg some (by kernel_rfl))
  f48 := Tryz.func138.trans (congrArg some (by kernel_rfl))
  f49 := ⟨Tryz.f139.name, by decide, Tryz.func139.trans (congrArg some (by kernel_rfl))⟩
  f50 := ⟨Tryz.f140.name, by decide, Tryz.func140.trans (congrArg some (by kernel_rfl))⟩
  f57 := ⟨Tryz.f153.name, by decide, Tryz.func153.trans (congrArg some (by kernel_rfl))⟩
  t0 := Tryz.underlying0
  a0 := Tryz.isAgg0
  z0 := Tryz.sizeOf0
  v0 := Tryz.zeroValue0
  t3 := Tryz.underlying3
  a3 := Tryz.isAgg3
  z3 := Tryz.sizeOf3
  v3 := Tryz.zeroValue3
  t4 := Tryz.underlying4
  a4 := Tryz.isAgg4
  z4 := Tryz.sizeOf4
  v4 := Tryz.zeroValue4
  t5 := Tryz.underlying5
  a5 := Tryz.isAgg5
  z5 := Tryz.sizeOf5
  v5 := Tryz.zeroValue5
  t9 := Tryz.underlying9
  a9 := Tryz.isAgg9
  z9 := Tryz.sizeOf9
  v9 := Tryz.zeroValue9
  t22 := Tryz.underlying51
  a22 := Tryz.isAgg51
  z22 := Tryz.sizeOf51
  v22 := Tryz.zeroValue51
  t25 := Tryz.underlying97
  a25 := Tryz.isAgg97
  z25 := Tryz.sizeOf97
  v25 := Tryz.zeroValue97
  t39 := Tryz.underlying44
  a39 := Tryz.isAgg44
  z39 := Tryz.sizeOf44
  v39 := Tryz.zeroValue44
  t45 := Tryz.underlying146
  a45 := Tryz.isAgg146
  z45 := Tryz.sizeOf146
  v45 := Tryz.zeroValue146
  t46 := Tryz.underlying147
  a46 := Tryz.isAgg147
  z46 := Tryz.sizeOf147
  v46 := Tryz.zeroValue147
  t50 := Tryz.underlying151
  a50 := Tryz.isAgg151
  z50 := Tryz.sizeOf151
  v50 := Tryz.zeroValue151
  t53 := Tryz.underlying43
  a53 := Tryz.isAgg43
  z53 := Tryz.sizeOf43
  v53 := Tryz.zeroValue43
  t55 := Tryz.underlying155
  a55 := Tryz.isAgg155
  z55 := Tryz.sizeOf155
  v55 := Tryz.zeroValue155
  t66 := Tryz.underlying167
  a66 := Tryz.isAgg167
  z66 := Tryz.sizeOf167
  v66 := Tryz.zeroValue167
  t70 := Tryz.underlying171
  a70 := Tryz.isAgg171
  z70 := Tryz.sizeOf171
  v70 := Tryz.zeroValue171
  t76 := Tryz.underlying180
  a76 := Tryz.isAgg180
  z76 := Tryz.sizeOf180
  v76 := Tryz.zeroValue180
  t77 := Tryz.underlying181
  a77 := Tryz.isAgg181
  z77 := Tryz.sizeOf181
  v77 := Tryz.zeroValue181 }
end Go.Proofs
