/-
  A plan that Judge accepts is right. By an AI agent.; The orders of the program and of the reference are one: plain mathematics. By an AI agent.; samePairs. By an AI agent.; The walk of first: example 1 of the chapter. By an AI agent.
-/
import Derived.Test.YtgphkfonjfdifaaMgShopOrders3
import Derived.Test.YtgphkfonjfdifaaMgShopOrders7
import Derived.Test.YtgphkfonjfdifaaMgShopOrders10
import Derived.Test.YtgphkfonjfdifaaMgShopOrders11
import Derived.Deep.RegionHeld3
import Derived.BigRegion
import Derived.BigQuiet
import Derived.Deep.DeepCutAuto

namespace Go.Proofs.Ytgphkfonjfdifaa
set_option linter.unusedVariables false
set_option linter.unusedSimpArgs false
open Go.RowKit

theorem right_of {s : Sh} {P : List (List Int)} (hV : ShOk s) (h : (judV s P).2.2 = 0) : RightP s P := by
  have hO : PlanOk s P := by
    rcases Classical.em (PlanOk s P) with h1 | h1
    · exact h1
    · rw [judV_bad h1] at h
      exact absurd h (by decide)
  rw [judV_ok hO] at h
  have hz := jud_zero h
  rw [plcL_len] at hz
  refine ⟨hO, fun i k hi hk => ?_, fun i k hi hk => ?_, fun n m hnm hm he => ?_⟩
  · obtain ⟨n, hn, e⟩ := fl_ix hi hk
    have h0 := hz 0 (by omega) n hn
    rw [chk0_ref hn e] at h0
    rcases Bool.eq_false_or_eq_true (inShB s.O s.C s.H (gi (gr P i) k) (gs (gj s.J i) k).2.1) with h1 | h1
    · exact inShB_iff.1 h1
    · rw [h1] at h0; cases h0
  · obtain ⟨n, hn, e⟩ := fl_ix hi hk
    have h0 := hz 1 (by omega) n hn
    rw [chk1_ref hO hn hi hk e] at h0
    have := of_decide_eq_false h0
    omega
  · have h0 := hz 2 (by omega) n (by omega)
    rw [chk2_ref n (by omega), anyK_iff] at h0
    have h1 := h0 (m - (n + 1)) (by omega)
    rw [show n + 1 + (m - (n + 1)) = m by omega, decide_eq_true he, Bool.true_and] at h1
    simpa using h1
end Go.Proofs.Ytgphkfonjfdifaa

namespace Go.Proofs.Ytgphkfonjfdifaa
set_option linter.unusedVariables false
set_option linter.unusedSimpArgs false
open Go.RowKit

/-- The steps on a machine. -/
def onM (m : Int) (L : List Plc) : List Plc := L.filter fun x => decide (x.m = m)
theorem onM_app (m : Int) (L : List Plc) (x : Plc) : onM m (L ++ [x]) = if x.m = m then onM m L ++ [x] else onM m L := by
  unfold onM
  rw [List.filter_append]
  by_cases h : x.m = m
  · rw [if_pos h]; simp [h]
  · rw [if_neg h]; simp [h]
theorem take_gc (L : List Plc) {k : Nat} (h : k < L.length) : L.take (k + 1) = L.take k ++ [gc L k] := by
  rw [gc_at L h, List.take_add_one, List.getElem?_eq_getElem h]; rfl
theorem ordK_eq (m : Int) (L : List Plc) : ∀ k, k ≤ L.length → ordK m L k = prs (onM m (L.take k))
  | 0, _ => by simp [ordK, onM, prs]
  | k + 1, hk => by
    have ih := ordK_eq m L k (by omega)
    rw [take_gc L (by omega), onM_app, ordK, ih]
    by_cases h : (gc L k).m = m
    · rw [if_pos h, if_pos h]; simp [prs]
    · rw [if_neg h, if_neg h]
theorem ordV_eq (m : Int) (L : List Plc) : ordV m L = prs (onM m L) := by
  unfold ordV
  rw [ordK_eq m L _ (Nat.le_refl _), List.take_length]
theorem insK_perm (m : Int) (L : List Plc) : ∀ k, k ≤ L.length → (insK m L k).Perm (onM m (L.take k))
  | 0, _ => by simp [insK, onM]
  | k + 1, hk => by
    have ih := insK_perm m L k (by omega)
    rw [take_gc L (by omega), onM_app, insK]
    by_cases h : (gc L k).m = m
    · rw [if_pos h, if_pos h]
      refine (insT_perm _ _).trans ?_
      exact (List.Perm.cons _ ih).trans (List.perm_append_comm (l₁ := [gc L k]))
    · rw [if_neg h, if_neg h]; exact ih
theorem insV_perm (m : Int) (L : List Plc) : (insV m L).Perm (onM m L) := by
  have := insK_perm m L _ (Nat.le_refl _)
  rw [List.take_length] at this
  exact this
/-- In the order of starts. -/
def AscQ (l : List Plc) : Prop := l.Pairwise fun p q => p.st ≤ q.st
theorem plcT_hi (v : Int) (O : List Plc) : ∀ k i, plcT v O k ≤ i → i < k → v < (gc O i).st
  | k + 1, i, h1, h2 => by
    rw [plcT] at h1
    split at h1
    · rename_i h
      by_cases e : i = k
      · subst e; exact h
      · exact plcT_hi v O k i h1 (by omega)
    · omega
theorem plcT_lo (v : Int) (O : List Plc) : ∀ k, 0 < plcT v O k → (gc O (plcT v O k - 1)).st ≤ v
  | k + 1, h => by
    rw [plcT] at h ⊢
    by_cases hv : v < (gc O k).st
    · rw [if_pos hv] at h ⊢; exact plcT_lo v O k h
    · rw [if_neg hv]; simp only [Nat.add_sub_cancel]; omega
theorem asc_gc {O : List Plc} (h : AscQ O) {i j : Nat} (hij : i ≤ j) (hj : j < O.length) : (gc O i).st ≤ (gc O j).st := by
  by_cases e : i = j
  · subst e; exact Int.le_refl _
  · rw [gc_at O (by omega), gc_at O hj]
    exact List.pairwise_iff_getElem.1 h i j (by omega) hj (by omega)
theorem insT_asc (x : Plc) {O : List Plc} (h : AscQ O) : AscQ (insT x O) := by
  have hl := plcT_le x.st O O.length
  have hi := plcT_hi x.st O O.length
  have hlo := plcT_lo x.st O O.length
  unfold insT
  generalize plcT x.st O O.length = j at *
  have hT : ∀ a, a ∈ O.take j → a.st ≤ x.st := fun a ha => by
    obtain ⟨i, hi1, e⟩ := List.getElem_of_mem ha
    rw [List.length_take] at hi1
    rw [List.getElem_take] at e
    have h1 := asc_gc h (show i ≤ j - 1 by omega) (by omega)
    have h2 := hlo (by omega)
    rw [gc_at O (show i < O.length by omega), e] at h1
    omega
  have hD : ∀ b, b ∈ O.drop j → x.st < b.st := fun b hb => by
    obtain ⟨i, hi1, e⟩ := List.getElem_of_mem hb
    rw [List.length_drop] at hi1
    rw [List.getElem_drop] at e
    have h1 := hi (j + i) (by omega) (by omega)
    rw [gc_at O (show j + i < O.length by omega), e] at h1
    exact h1
  unfold AscQ
  rw [List.pairwise_append]
  refine ⟨h.sublist (List.take_sublist _ _), ?_, ?_⟩
  · rw [List.pairwise_cons]
    exact ⟨fun b hb => by have := hD b hb; omega, h.sublist (List.drop_sublist _ _)⟩
  · intro a ha b hb
    have h1 := hT a ha
    rcases List.mem_cons.1 hb with rfl | hb
    · exact h1
    · have := hD b hb; omega
theorem insK_asc (m : Int) (L : List Plc) : ∀ k, AscQ (insK m L k)
  | 0 => List.Pairwise.nil
  | k + 1 => by
    rw [insK]; split
    · exact insT_asc _ (insK_asc m L k)
    · exact insK_asc m L k
/-- Two lists in the order of starts that differ, with the same steps, are one. -/
theorem asc_unique : ∀ {s t : List Plc}, AscQ s → AscQ t → s.Perm t → s.Pairwise (fun p q => p.st ≠ q.st) → s = t
  | [], t, _, _, hp, _ => hp.nil_eq
  | x :: s, [], _, _, hp, _ => by simpa using hp.length_eq
  | x :: s, y :: t, h1, h2, hp, hn => by
    obtain ⟨a1, a2⟩ := List.pairwise_cons.1 h1
    obtain ⟨b1, b2⟩ := List.pairwise_cons.1 h2
    obtain ⟨n1, n2⟩ := List.pairwise_cons.1 hn
    have hxy : x = y := by
      have hx : x ∈ y :: t := hp.mem_iff.1 (by simp)
      have hy : y ∈ x :: s := hp.mem_iff.2 (by simp)
      rcases List.mem_cons.1 hx with e | hx
      · exact e
      · rcases List.mem_cons.1 hy with e | hy
        · exact e.symm
        · have c1 := a1 y hy
          have c2 := b1 x hx
          have c3 := n1 y hy
          omega
    subst hxy
    rw [asc_unique a2 b2 hp.cons_inv n2]
/-- On a right plan no two steps of a machine start together. -/
def DifQ (L : List Plc) : Prop := L.Pairwise fun p q => p.m = q.m → p.st ≠ q.st
theorem dif_of {s : Sh} {P : List (List Int)} (hV : ShOk s) (hr : RightP s P) : DifQ (plcL s P) := by
  unfold DifQ
  rw [List.pairwise_iff_getElem]
  intro i j hi hj hij he
  rw [← gc_at (plcL s P) hi, ← gc_at (plcL s P) hj] at he ⊢
  have o1 := plcOk_of hV hr.plan hi
  have o2 := plcOk_of hV hr.plan hj
  rw [plcL_len] at hi hj
  rw [plcL_at s P hi] at he o1 ⊢
  rw [plcL_at s P hj] at he o2 ⊢
  have hc := hr.clash i j hij hj he
  unfold PlcOk plcO at o1 o2
  unfold plcO at he ⊢
  have hw := wait_bd hV.2.2.1.2.1 hV.2.2.1.2.2 (stpP s (gp (flP s.J) i)) (stpP s (gp (flP s.J) j)) o1.1.1 o1.1.2
  unfold apB at hc
  rw [Bool.or_eq_true, decide_eq_true_eq, decide_eq_true_eq] at hc
  dsimp only at o1 o2 he ⊢
  omega
theorem dif_perm {L Q : List Plc} (h : DifQ L) (hp : Q.Perm L) : DifQ Q := (hp.pairwise_iff (fun h e => fun g => h e.symm g.symm)).2 h
theorem dif_on {L : List Plc} (h : DifQ L) (m : Int) : (onM m L).Pairwise fun p q => p.st ≠ q.st := by
  have h1 : (onM m L).Pairwise fun p q => p.m = q.m → p.st ≠ q.st := h.sublist List.filter_sublist
  refine h1.imp_of_mem ?_
  intro a b ha hb hR
  have ha := (List.mem_filter.1 ha).2
  have hb := (List.mem_filter.1 hb).2
  rw [decide_eq_true_eq] at ha hb
  exact hR (by rw [ha, hb])
theorem srt_asc {L : List Plc} (h : SrtQ L) : AscQ L := by
  unfold SrtQ at h
  refine h.imp ?_
  intro a b hab
  unfold ahdQ at hab
  omega
theorem ord_one {s : Sh} {P : List (List Int)} {Q : List Plc} (hV : ShOk s) (hr : RightP s P) (hp : Q.Perm (plcL s P)) (hs : SrtQ Q) (m : Int) : ordV m Q = prs (insV m (plcL s P)) := by
  rw [ordV_eq]
  congr 1
  have hd := dif_on (dif_of hV hr) m
  refine asc_unique ((srt_asc hs).sublist List.filter_sublist) (insK_asc m _ _) ?_ (dif_on (dif_perm (dif_of hV hr) hp) m)
  exact (hp.filter _).trans (insV_perm m _).symm
end Go.Proofs.Ytgphkfonjfdifaa

namespace Go.Proofs.Ytgphkfonjfdifaa
set_option linter.unusedVariables false
set_option linter.unusedSimpArgs false
open Go.RowKit

theorem part_intC (w : World) (xs : Array Value) (i : Nat) (k : Int) (h : xs[i]? = some (.int .i64 k)) : (part 3 xs i).run Try.prog w = .ok (.int .i64 k) w := by
  simp [part, go_sem, h]
set_option maxRecDepth 100000 in
theorem eq_two (w : World) (x y : Int) : (Op.equalIn 10000 76 (.agg #[.int .i64 x, .int .i64 y]) (.agg #[.int .i64 x, .int .i64 y])).run Try.prog w = .ok true w := by
  have hz : ∀ W, (sizeOf 3).run Try.prog W = .ok 1 W := fun W => by kernel_rfl
  show (Op.equalIn (9999 + 1) _ _ _).run _ _ = _
  rw [Op.equalIn]
  simp only [Sem.run_bind, run_underlying Try.underlying76, Result.andThen_ok, hz]
  simp [Std.Legacy.Range.forIn_eq_forIn_range', List.range', Sem.run_bind, part_intC, run_equalIn_int, Try.underlying3, Std.Legacy.Range.size]
set_option maxRecDepth 100000 in
set_option maxHeartbeats 1000000 in
theorem samePairs_any (a b : Option Addr) (l : List (Int × Int)) (ca cb : Nat) (w : World) (hA : PairsS w a l) (hB : PairsS w b l) :
    Calls Try.prog 20 #[.slice a l.length ca, .slice b l.length cb] w fun e w' => e = .returned (.bool true) ∧ Below w.heap.size w w' := by
  obtain ⟨hlen, -, ba, oa, hada, ha⟩ := hA
  obtain ⟨-, -, bb, ob, hadb, hb⟩ := hB
  have HA := Lib.hid ha
  have HB := Lib.hid hb
  have HLA : Hid (0 < l.length → a = some ⟨ba, oa, none⟩) := Lib.hid fun h => hada (by rintro rfl; simp at h)
  have HLB : Hid (0 < l.length → b = some ⟨bb, ob, none⟩) := Lib.hid fun h => hadb (by rintro rfl; simp at h)
  clear ha hb hada hadb
  go_enter Try.func20, Try.ntmps20
  go_wp2_with fail
  go_loopw [5] (fun i wr => ∃ k : Nat, k ≤ l.length ∧ i = .int .i64 k ∧ Below w.heap.size w wr) (fun i _ => l.length - (intOf i).toNat)
  case atStart => exact ⟨0, Nat.zero_le _, rfl, Below.refl _ _⟩
  case round =>
    obtain ⟨k, hk, rfl, hbr⟩ := hrel
    by_cases hlt : k < l.length
    · obtain rfl := HLA.out (by omega)
      obtain rfl := HLB.out (by omega)
      have d0 := cell_below (HA.out k hlt).1 hbr
      have d1 := cell_below (HA.out k hlt).2 hbr
      have d2 := cell_below (HB.out k hlt).1 hbr
      have d3 := cell_below (HB.out k hlt).2 hbr
      have hkl : (k : Int) < (l.length : Int) := by omega
      have hk0 : (0 : Int) ≤ (k : Int) := by omega
      clear HA HB HLA HLB
      generalize (gp l k).1 = x at *
      generalize (gp l k).2 = y at *
      have he := fun W => eq_two W x y
      go_wp2_with fail
      go_quiet (fail)
      go_wp2_with fail
      go_roundw
      case rel => exact ⟨k + 1, by omega, by go_num, below_drewN hbr _⟩
      case measure => simp [intOf]; omega
    · obtain rfl : k = l.length := by omega
      go_wp2_with fail
      go_ret
      exact ⟨rfl, hbr⟩
end Go.Proofs.Ytgphkfonjfdifaa

namespace Go.Proofs.Ytgphkfonjfdifaa
set_option linter.unusedVariables false
set_option linter.unusedSimpArgs false
open Go.RowKit

/-- The shop of the example. -/
def exSh (b : Nat) : Sh := ⟨480, 960, none, [], 0, 1, some ⟨b, 0, none⟩, [0], 1, none, [], 0⟩
theorem exSh_ok (b : Nat) : ShOk (exSh b) := by
  refine ⟨⟨show (0 : Int) ≤ 480 by decide, show (480 : Int) < 960 by decide, show (960 : Int) ≤ 1440 by decide⟩, ⟨show 0 ≤ 400 by decide, fun j hj => absurd hj (Nat.not_lt_zero _)⟩, ⟨⟨show (1 : Int) ≤ 1 by decide, show (1 : Int) ≤ 6 by decide⟩, show ((1 : Nat) : Int) = 1 by decide, fun j hj => ?_⟩, show 0 ≤ 12 by decide, fun j hj => absurd hj (Nat.not_lt_zero _)⟩
  have : j = 0 := by have : j < 1 := hj; omega
  subst this
  exact ⟨show (0 : Int) ≤ 0 by decide, show (0 : Int) ≤ 1000 by decide⟩
theorem exSh_next : nextV 480 960 [] 900 90 = 1920 := by
  refine nextV_eq ⟨by omega, ⟨hol_false.2 fun j hj => absurd hj (Nat.not_lt_zero _), by decide, by decide⟩, fun y h1 h2 h => ?_⟩
  have := h.2.1
  have := h.2.2
  omega
theorem opn_nil (t : Int) : opnB 480 960 [] t = t / 1440 * 480 + min (max (t % 1440 - 480) 0) 480 := by
  have h : hol [] (t / 1440) = false := hol_false.2 fun j hj => absurd hj (Nat.not_lt_zero _)
  have c : cnt [] (t / 1440) = 0 := rfl
  unfold opnB preB
  rw [h, c]
  simp
theorem exSh_after : aftV 480 960 [] 900 90 = 1950 := by
  refine aftV_eq ⟨by omega, ?_, fun y h1 h2 => ?_⟩
  · rw [opn_nil, opn_nil]; omega
  · rw [opn_nil, opn_nil]; omega

set_option maxRecDepth 100000 in
set_option maxHeartbeats 1000000 in
theorem first_sh (w : World) : Calls Try.prog 14 #[] w fun e w' => e = .returned (.bool true) ∧ Below w.heap.size w w' := by
  have hI : ∀ W, W.cell? ⟨w.heap.size, 0, none⟩ = some (.int .i64 0) → ShS W (exSh w.heap.size) := fun W hc => by
    refine ⟨⟨show 0 ≤ 9223372036854775807 by decide, fun i hi => absurd hi (Nat.not_lt_zero _), 0, 0, fun h => absurd rfl h, fun i hi => absurd hi (Nat.not_lt_zero _)⟩, ⟨show 1 ≤ 9223372036854775807 by decide, fun i hi => ?_, w.heap.size, 0, fun _ => rfl, fun i hi => ?_⟩, show 0 ≤ 9223372036854775807 by decide, 0, 0, fun _ => none, fun _ => 0, fun h => absurd rfl h, fun i hi => absurd hi (Nat.not_lt_zero _)⟩
    · have : i = 0 := by have : i < 1 := hi; omega
      subst this
      exact ⟨show (-9223372036854775808 : Int) ≤ 0 by decide, show (0 : Int) ≤ 9223372036854775807 by decide⟩
    · have : i = 0 := by have : i < 1 := hi; omega
      subst this
      exact hc
  have HN : Hid (∀ W, W.cell? ⟨w.heap.size, 0, none⟩ = some (.int .i64 0) → Calls Try.prog 33 #[.agg #[.int .i64 480, .int .i64 960, .slice none 0 0, .int .i64 1, .slice (some ⟨w.heap.size, 0, none⟩) 1 1, .slice none 0 0], .int .i64 900, .int .i64 90] W fun e w' => e = .returned (.tuple #[.int .i64 1920, .int .i64 0]) ∧ Below W.heap.size W w') := Lib.hid fun W hc => by
    have := next_ok (exSh w.heap.size) 900 90 W (hI W hc) (exSh_ok _) (by decide) (by decide) (by decide) (show (90 : Int) ≤ 960 - 480 by decide)
    rw [show nextV (exSh w.heap.size).O (exSh w.heap.size).C (exSh w.heap.size).H 900 90 = 1920 from exSh_next] at this
    exact this
  have HA : Hid (∀ W, W.cell? ⟨w.heap.size, 0, none⟩ = some (.int .i64 0) → Calls Try.prog 34 #[.agg #[.int .i64 480, .int .i64 960, .slice none 0 0, .int .i64 1, .slice (some ⟨w.heap.size, 0, none⟩) 1 1, .slice none 0 0], .int .i64 900, .int .i64 90] W fun e w' => e = .returned (.tuple #[.int .i64 1950, .int .i64 0]) ∧ Below W.heap.size W w') := Lib.hid fun W hc => by
    have := after_ok (exSh w.heap.size) 900 90 W (hI W hc) (exSh_ok _) (by decide) (by decide) (by decide)
    rw [show aftV (exSh w.heap.size).O (exSh w.heap.size).C (exSh w.heap.size).H 900 ((90 : Nat) : Int) = 1950 from exSh_after] at this
    exact this
  clear hI
  go_enter Try.func14, Try.ntmps14
  go_wp2_with fail
  obtain ⟨wB, hwB⟩ : ∃ wB, (w.alloc (.cells #[.int .i64 0] 3)).alloc (.cells #[.int .i64 480, .int .i64 960, .slice none 0 0, .int .i64 1, .slice (some ⟨w.heap.size, 0, none⟩) 1 1, .slice none 0 0] 25) = wB := ⟨_, rfl⟩
  have hb : Below w.heap.size w wB := by rw [← hwB]; exact ((Below.refl _ _).alloc (Nat.le_refl _) _).alloc (by simp) _
  have ct : wB.cell? ⟨w.heap.size, 0, none⟩ = some (.int .i64 0) := by rw [← hwB]; simp [go_sem]
  have p0 : wB.cell? ⟨w.heap.size + 1, 0, none⟩ = some (.int .i64 480) := by rw [← hwB]; simp [go_sem]
  have p1 : wB.cell? ⟨w.heap.size + 1, 1, none⟩ = some (.int .i64 960) := by rw [← hwB]; simp [go_sem]
  have p2 : wB.cell? ⟨w.heap.size + 1, 2, none⟩ = some (.slice none 0 0) := by rw [← hwB]; simp [go_sem]
  have p3 : wB.cell? ⟨w.heap.size + 1, 3, none⟩ = some (.int .i64 1) := by rw [← hwB]; simp [go_sem]
  have p4 : wB.cell? ⟨w.heap.size + 1, 4, none⟩ = some (.slice (some ⟨w.heap.size, 0, none⟩) 1 1) := by rw [← hwB]; simp [go_sem]
  have p5 : wB.cell? ⟨w.heap.size + 1, 5, none⟩ = some (.slice none 0 0) := by rw [← hwB]; simp [go_sem]
  rw [hwB]
  clear hwB
  refine (HN.out _ ct).mono ?_
  rintro e w1 ⟨rfl, hb1⟩
  have ct := cell_below ct hb1
  have p0 := cell_below p0 hb1
  have p1 := cell_below p1 hb1
  have p2 := cell_below p2 hb1
  have p3 := cell_below p3 hb1
  have p4 := cell_below p4 hb1
  have p5 := cell_below p5 hb1
  have hb := hb.trans (hb1.mono hb.size)
  clear HN hb1
  go_wp2_with fail
  refine (HA.out _ ct).mono ?_
  rintro e w2 ⟨rfl, hb2⟩
  go_wp2_with fail
  go_ret
  exact ⟨rfl, hb.trans (hb2.mono hb.size)⟩
end Go.Proofs.Ytgphkfonjfdifaa
