/-
  The law RoadOrder: it answers true. By an AI agent.
-/
import Derived.Test.YtacmeadmmjehmaaRoadAw
import Derived.Deep.RegionHeld3
namespace Go.Proofs.Ytacmeadmmjehmaa
set_option linter.unusedVariables false
set_option linter.unusedSimpArgs false
open Go.RowKit

/-- What the law wants of what Carry returns. -/
theorem order_ok {N L : Int} {l : List Chg} {x y u v : Int} (hxy : x < y) : (carE N L l x u v = 0 ∧ carE N L l y u v = 0 ∧ carV N L l x u v ≤ carV N L l y u v) ∨ (carE N L l x u v = 0 ∧ (carE N L l y u v = 60 ∨ carE N L l y u v = 61 ∨ carE N L l y u v = 2 ∨ carE N L l y u v = 62)) ∨ (carE N L l x u v = 60 ∨ carE N L l x u v = 61 ∨ carE N L l x u v = 2 ∨ carE N L l x u v = 62) := by
  have hE : ∀ c, carE N L l c u v = 0 ∨ (carE N L l c u v = 60 ∨ carE N L l c u v = 61 ∨ carE N L l c u v = 2 ∨ carE N L l c u v = 62) := fun c => by
    unfold carE
    rcases errL_cases N L l [u, v] with ⟨_, _, he⟩ | he | he
    · rw [if_pos he]
      split
      · split
        · exact .inl rfl
        · exact .inr (.inr (.inr (.inr rfl)))
      · exact .inr (.inr (.inr (.inl rfl)))
    · rw [if_neg (by rw [he]; decide), he]; exact .inr (.inl rfl)
    · rw [if_neg (by rw [he]; decide), he]; exact .inr (.inr (.inl rfl))
  rcases hE x with h1 | h1
  · rcases hE y with h2 | h2
    · refine .inl ⟨h1, h2, ?_⟩
      rcases errL_cases N L l [u, v] with ⟨hr, hw, he⟩ | he | he
      · obtain ⟨⟨u0, u1⟩, v0, v1⟩ := ver_ok (N := N) (L := L) hw
        have e1 := h1
        have e2 := h2
        unfold carE at e1 e2
        rw [if_pos he] at e1 e2
        cases hb1 : btw x 0 (lenK L l u.toNat) with
        | false => rw [hb1] at e1; exact absurd e1 (by simp)
        | true =>
          cases hb2 : btw y 0 (lenK L l u.toNat) with
          | false => rw [hb2] at e2; exact absurd e2 (by simp)
          | true =>
            rw [hb1, if_pos rfl] at e1
            rw [hb2, if_pos rfl] at e2
            cases hp1 : carP l x u.toNat v.toNat with
            | none => rw [hp1] at e1; exact absurd e1 (by decide)
            | some p =>
              cases hp2 : carP l y u.toNat v.toNat with
              | none => rw [hp2] at e2; exact absurd e2 (by decide)
              | some q =>
                unfold carV
                rw [if_pos h1, if_pos h2, hp1, hp2]
                exact carK_mono (len := fun j => lenK L l (posK u.toNat v.toNat j)) (fun j hj => sw_ok hr (by omega) (by omega) hj) (by omega) (dst u.toNat v.toNat) (Nat.le_refl _) p q hp1 hp2
      · unfold carE at h1; rw [if_neg (by rw [he]; decide), he] at h1; exact absurd h1 (by decide)
      · unfold carE at h1; rw [if_neg (by rw [he]; decide), he] at h1; exact absurd h1 (by decide)
    · exact .inr (.inl ⟨h1, h2⟩)
  · exact .inr (.inr h1)
/-- What the law wants of what Kept returns. -/
theorem kept_ok {N L : Int} {l : List Chg} {x y u v : Int} : (kpE N L l x y u v = 0 ∧ Canon (kpL N L l x y u v) ∧ sumL (kpL N L l x y u v) ≤ y - x ∧ InV 10000000 (kpL N L l x y u v) ∧ 0 ≤ x ∧ y ≤ 10000000) ∨ ((kpE N L l x y u v = 60 ∨ kpE N L l x y u v = 61 ∨ kpE N L l x y u v = 2) ∧ kpL N L l x y u v = []) := by
  by_cases h : kpE N L l x y u v = 0
  · refine .inl ⟨h, ?_⟩
    have e := h
    unfold kpE at e
    rcases errL_cases N L l [u, v] with ⟨hr, hw, he⟩ | he | he
    · rw [if_pos he] at e
      obtain ⟨⟨u0, u1⟩, v0, v1⟩ := ver_ok (N := N) (L := L) hw
      cases hs : strB x y (lenK L l u.toNat) with
      | false => rw [hs] at e; exact absurd e (by decide)
      | true =>
        have hs := (strB_iff _ _ _).1 hs
        unfold kpL
        rw [if_pos h]
        have hV : AllV (keptP l (x, y) u.toNat v.toNat) := keptK_v hs.2.1 _
        obtain ⟨k1, k2, k3⟩ := keptP_in hr (u := u.toNat) (v := v.toNat) (p := (x, y)) (by omega) (by omega) ⟨hs.1, by simp only []; omega, hs.2.2⟩
        have hj := canL_ok hV
        refine ⟨hj.1, ?_, ?_, hs.1, by have := (len_bd hr u.toNat (by omega)).2; omega⟩
        · have hm := (join_eq (d := (keptP l (x, y) u.toNat v.toNat).mergeSort (fun p q => decide (p.1 ≤ q.1))) hV (List.mergeSort_perm _ _) (fun i j hij hjl => ?_)).2
          · simp only [] at k3; omega
          · have hp := List.pairwise_mergeSort (le := fun p q : Spn => decide (p.1 ≤ q.1)) (by intro a b c h1 h2; simp at *; omega) (by intro a b; simp; omega) (keptP l (x, y) u.toNat v.toNat)
            have := List.pairwise_iff_getElem.1 hp i j (by omega) hjl hij
            unfold gp
            rw [List.getD_eq_getElem?_getD, List.getD_eq_getElem?_getD, List.getElem?_eq_getElem (by omega), List.getElem?_eq_getElem hjl]
            simpa using this
        · intro p hp
          have hv := hj.1.2 p hp
          have h1 := (hj.2.1 p.1).1 ⟨p, hp, Int.le_refl _, hv⟩
          have h2 := (hj.2.1 (p.2 - 1)).1 ⟨p, hp, by omega, by omega⟩
          obtain ⟨q, hq, a1, a2⟩ := h1
          obtain ⟨r, hr', b1, b2⟩ := h2
          have := k1 q hq
          have := k1 r hr'
          omega
    · rw [if_neg (by rw [he]; decide), he] at e; exact absurd e (by decide)
    · rw [if_neg (by rw [he]; decide), he] at e; exact absurd e (by decide)
  · refine .inr ⟨?_, by unfold kpL; rw [if_neg h]⟩
    have e := h
    unfold kpE at e ⊢
    rcases errL_cases N L l [u, v] with ⟨hr, hw, he⟩ | he | he
    · rw [if_pos he] at e ⊢
      split
      · rename_i hs
        rw [if_pos hs] at e; exact absurd rfl e
      · exact .inr (.inr rfl)
    · rw [if_neg (by rw [he]; decide), he]; exact .inl rfl
    · rw [if_neg (by rw [he]; decide), he]; exact .inr (.inl rfl)
theorem sum_canon' : ∀ {q : List Spn} {lo hi : Int}, Canon q → (∀ p ∈ q, lo ≤ p.1 ∧ p.2 ≤ hi) → lo ≤ hi → sumL q ≤ hi - lo
  | [], lo, hi, _, _, h => by simp [sumL]; omega
  | p :: q, lo, hi, hC, hb, h => by
    obtain ⟨c1, c2, c3⟩ := canon_cons hC
    have hp := hb p (by simp)
    have ih := sum_canon' (q := q) (lo := p.2) (hi := hi) c3 (fun r hr => ⟨by have := c2 r hr; omega, (hb r (List.mem_cons_of_mem _ hr)).2⟩) hp.2
    rw [sumL]; omega
theorem sum_canon {q : List Spn} (hC : Canon q) (hI : InV 10000000 q) : sumL q ≤ 10000000 := by
  have := sum_canon' (lo := 0) (hi := 10000000) hC (fun p hp => ⟨(hI p hp).1, (hI p hp).2.2⟩) (by decide)
  omega
set_option maxRecDepth 100000 in
set_option maxHeartbeats 4000000 in
theorem roadOrder_any (N L : Int) (a : Option Addr) (l : List Chg) (ca : Nat) (x y u v : Int) (w : World) (hQ : QuadS w a l) (hca : l.length ≤ ca) (hx : I64 x) (hy : I64 y) :
    Calls Try.prog 6 #[.agg #[.int .i64 N, .int .i64 L, .slice a l.length ca], .agg #[.int .i64 x, .int .i64 y], .agg #[.int .i64 u, .int .i64 v]] w fun e w' => e = .returned (.bool true) ∧ Below w.heap.size w w' := by
  have HA := Lib.hid awake_any
  have HM := Lib.hid (fun W (hW : Below w.heap.size w W) => many_any N L a l ca W (hQ.below hW))
  have HC1 := Lib.hid (fun W (hW : Below w.heap.size w W) => Carry_any N L a l ca x u v W (hQ.below hW) hca)
  have HC2 := Lib.hid (fun W (hW : Below w.heap.size w W) => Carry_any N L a l ca y u v W (hQ.below hW) hca)
  have HK := Lib.hid (fun W (hW : Below w.heap.size w W) => Kept_any N L a l ca x y u v W (hQ.below hW) hca)
  obtain ⟨x0, x1⟩ := hx
  obtain ⟨y0, y1⟩ := hy
  cases hm : decide (60 < l.length) with
  | true =>
    rw [hm] at HM
    clear hm HC1 HC2 HK hQ hca
    go_enter Try.func6, Try.ntmps6
    go_wp2_with fail
    obtain ⟨wB, hwB⟩ : ∃ wB, ((w.alloc (.cells #[.int .i64 N, .int .i64 L, .slice a l.length ca] 24)).alloc (.cells #[.int .i64 x, .int .i64 y] 35)).alloc (.cells #[.int .i64 u, .int .i64 v] 32) = wB := ⟨_, rfl⟩
    have HB := Lib.hid (((RdBox.start w N L a l ca 24).alloc (.cells #[.int .i64 x, .int .i64 y] 35)).alloc (.cells #[.int .i64 u, .int .i64 v] 32))
    have q0 : wB.cell? ⟨w.heap.size + 1, 0, none⟩ = some (.int .i64 x) := by rw [← hwB]; simp [go_sem]
    have q1 : wB.cell? ⟨w.heap.size + 1, 1, none⟩ = some (.int .i64 y) := by rw [← hwB]; simp [go_sem]
    have r0 : wB.cell? ⟨w.heap.size + 1 + 1, 0, none⟩ = some (.int .i64 u) := by rw [← hwB]; simp [go_sem]
    have r1 : wB.cell? ⟨w.heap.size + 1 + 1, 1, none⟩ = some (.int .i64 v) := by rw [← hwB]; simp [go_sem]
    rw [hwB] at HB ⊢
    clear hwB
    obtain ⟨hb, p0, p1, p2⟩ := HB.out
    refine (HM.out _ hb).mono ?_
    rintro e w1 ⟨rfl, hb1⟩
    have q0 := cell_below q0 hb1
    have q1 := cell_below q1 hb1
    have r0 := cell_below r0 hb1
    have r1 := cell_below r1 hb1
    have HB := Lib.hid (HB.out.on hb1)
    obtain ⟨hb, p0, p1, p2⟩ := HB.out
    clear hb1
    go_wp2_with fail
    refine (HA.out _).mono ?_
    rintro e w9 ⟨rfl, hb9⟩
    go_wp2_with fail
    go_ret
    exact ⟨rfl, below_on hb hb9⟩

  | false =>
    rw [hm] at HM
    clear hm
    by_cases hxy : y ≤ x
    · clear HC1 HC2 HK hQ hca
      go_enter Try.func6, Try.ntmps6
      go_wp2_with fail
      obtain ⟨wB, hwB⟩ : ∃ wB, ((w.alloc (.cells #[.int .i64 N, .int .i64 L, .slice a l.length ca] 24)).alloc (.cells #[.int .i64 x, .int .i64 y] 35)).alloc (.cells #[.int .i64 u, .int .i64 v] 32) = wB := ⟨_, rfl⟩
      have HB := Lib.hid (((RdBox.start w N L a l ca 24).alloc (.cells #[.int .i64 x, .int .i64 y] 35)).alloc (.cells #[.int .i64 u, .int .i64 v] 32))
      have q0 : wB.cell? ⟨w.heap.size + 1, 0, none⟩ = some (.int .i64 x) := by rw [← hwB]; simp [go_sem]
      have q1 : wB.cell? ⟨w.heap.size + 1, 1, none⟩ = some (.int .i64 y) := by rw [← hwB]; simp [go_sem]
      have r0 : wB.cell? ⟨w.heap.size + 1 + 1, 0, none⟩ = some (.int .i64 u) := by rw [← hwB]; simp [go_sem]
      have r1 : wB.cell? ⟨w.heap.size + 1 + 1, 1, none⟩ = some (.int .i64 v) := by rw [← hwB]; simp [go_sem]
      rw [hwB] at HB ⊢
      clear hwB
      obtain ⟨hb, p0, p1, p2⟩ := HB.out
      refine (HM.out _ hb).mono ?_
      rintro e w1 ⟨rfl, hb1⟩
      have q0 := cell_below q0 hb1
      have q1 := cell_below q1 hb1
      have r0 := cell_below r0 hb1
      have r1 := cell_below r1 hb1
      have HB := Lib.hid (HB.out.on hb1)
      obtain ⟨hb, p0, p1, p2⟩ := HB.out
      clear hb1
      go_wp2_with fail
      refine (HA.out _).mono ?_
      rintro e w9 ⟨rfl, hb9⟩
      go_wp2_with fail
      go_ret
      exact ⟨rfl, below_on hb hb9⟩

    · have hxy2 : x < y := by omega
      have HO := Lib.hid (order_ok (N := N) (L := L) (l := l) (u := u) (v := v) hxy2)
      have HKO := Lib.hid (kept_ok (N := N) (L := L) (l := l) (x := x) (y := y) (u := u) (v := v))
      clear hQ hca hxy
      generalize carE N L l x u v = E1 at *
      generalize carE N L l y u v = E2 at *
      generalize carV N L l x u v = V1 at *
      generalize carV N L l y u v = V2 at *
      generalize kpE N L l x y u v = E3 at *
      generalize kpL N L l x y u v = Q at *
      have hE : (E1 = 0 ∧ E2 = 0 ∧ V1 ≤ V2) ∨ (E1 = 0 ∧ (E2 == 0) = false) ∨ (E1 == 0) = false := by
        rcases HO.out with ⟨a, b, c⟩ | ⟨a, h⟩ | h
        · exact .inl ⟨a, b, c⟩
        · refine .inr (.inl ⟨a, ?_⟩)
          rcases h with rfl | rfl | rfl | rfl <;> decide
        · refine .inr (.inr ?_)
          rcases h with rfl | rfl | rfl | rfl <;> decide
      clear HO
      rcases HKO.out with ⟨rfl, hC, hsum, hin, hx0, hy0⟩ | ⟨hE3, rfl⟩
      · have HC := Lib.hid hC
        have HI := Lib.hid hin
        have HQL : Hid (Q.length ≤ 20000000) := Lib.hid (by
          have h1 := sumL_len hC.2
          have h2 : sumL Q ≤ 10000000 := by
            by_cases hq : Q = []
            · subst hq; decide
            · exact sum_canon hC hin
          omega)
        have HTS : Hid (∀ k, k ≤ Q.length → 0 ≤ sumL (Q.take k) ∧ sumL (Q.take k) ≤ 10000000 * k) := Lib.hid fun k hk => part_bd (fun p hp => hin p hp) k hk
        clear hC hin HKO
        rcases hE with ⟨rfl, rfl, hv⟩ | ⟨rfl, hv⟩ | hv
        all_goals
          go_enter Try.func6, Try.ntmps6
          go_wp2_with fail
          obtain ⟨wB, hwB⟩ : ∃ wB, ((w.alloc (.cells #[.int .i64 N, .int .i64 L, .slice a l.length ca] 24)).alloc (.cells #[.int .i64 x, .int .i64 y] 35)).alloc (.cells #[.int .i64 u, .int .i64 v] 32) = wB := ⟨_, rfl⟩
          have HB := Lib.hid (((RdBox.start w N L a l ca 24).alloc (.cells #[.int .i64 x, .int .i64 y] 35)).alloc (.cells #[.int .i64 u, .int .i64 v] 32))
          have q0 : wB.cell? ⟨w.heap.size + 1, 0, none⟩ = some (.int .i64 x) := by rw [← hwB]; simp [go_sem]
          have q1 : wB.cell? ⟨w.heap.size + 1, 1, none⟩ = some (.int .i64 y) := by rw [← hwB]; simp [go_sem]
          have r0 : wB.cell? ⟨w.heap.size + 1 + 1, 0, none⟩ = some (.int .i64 u) := by rw [← hwB]; simp [go_sem]
          have r1 : wB.cell? ⟨w.heap.size + 1 + 1, 1, none⟩ = some (.int .i64 v) := by rw [← hwB]; simp [go_sem]
          rw [hwB] at HB ⊢
          clear hwB
          obtain ⟨hb, p0, p1, p2⟩ := HB.out
          refine (HM.out _ hb).mono ?_
          rintro e w1 ⟨rfl, hb1⟩
          have q0 := cell_below q0 hb1
          have q1 := cell_below q1 hb1
          have r0 := cell_below r0 hb1
          have r1 := cell_below r1 hb1
          have HB := Lib.hid (HB.out.on hb1)
          obtain ⟨hb, p0, p1, p2⟩ := HB.out
          clear hb1
          go_wp2_with fail
          refine (HC1.out _ hb).mono ?_
          rintro e w2 ⟨rfl, hb2⟩
          have q0 := cell_below q0 hb2
          have q1 := cell_below q1 hb2
          have r0 := cell_below r0 hb2
          have r1 := cell_below r1 hb2
          have HB := Lib.hid (HB.out.on hb2)
          obtain ⟨hb, p0, p1, p2⟩ := HB.out
          clear hb2
          go_wp2_with fail
          refine (HC2.out _ hb).mono ?_
          rintro e w3 ⟨rfl, hb3⟩
          have q0 := cell_below q0 hb3
          have q1 := cell_below q1 hb3
          have r0 := cell_below r0 hb3
          have r1 := cell_below r1 hb3
          have HB := Lib.hid (HB.out.on hb3)
          obtain ⟨hb, p0, p1, p2⟩ := HB.out
          clear hb3
          go_wp2_with fail
          refine (HK.out _ hb).mono ?_
          rintro e w4 ⟨bk, ck, rfl, hP, hb4, hck⟩
          have HP := Lib.hid hP
          clear hP hck
          have q0 := cell_below q0 hb4
          have q1 := cell_below q1 hb4
          have r0 := cell_below r0 hb4
          have r1 := cell_below r1 hb4
          have HB := Lib.hid (HB.out.on hb4)
          obtain ⟨hb, p0, p1, p2⟩ := HB.out
          clear hb4
          go_wp2_with fail
          obtain ⟨_, -, bq, oq, hadr, hc⟩ := HP.out
          have HCq := Lib.hid hc
          have HLq : Hid (0 < Q.length → bk = some ⟨bq, oq, none⟩) := Lib.hid fun h => hadr (pos_ne (n := 0) h)
          clear hadr hc HP
          have hql := HQL.out
          obtain ⟨wo, rfl⟩ : ∃ wo : World, wo = w4 := ⟨_, rfl⟩
          go_loopw [13, 14] (fun n i wr => ∃ k : Nat, k ≤ Q.length ∧ i = .int .i64 k ∧ n = .int .i64 (sumL (Q.take k)) ∧ Below wo.heap.size wo wr) (fun _ i _ => Q.length - (intOf i).toNat)
          case atStart => exact ⟨0, Nat.zero_le _, rfl, rfl, Below.refl _ _⟩
          case round =>
            obtain ⟨k, hk, rfl, rfl, hbr⟩ := hrel
            obtain ⟨t0, t1⟩ := HTS.out k hk
            by_cases hlt : k < Q.length
            · obtain rfl := HLq.out (by omega)
              obtain ⟨c0, c1⟩ := HCq.out k hlt
              have c0 := cell_below c0 hbr
              have c1 := cell_below c1 hbr
              have hkl : (k : Int) < (Q.length : Int) := by omega
              have HX := Lib.hid (sum_take hlt)
              obtain ⟨z0, zz, z1⟩ := HI.out _ (gp_mem hlt)
              have hz := HC.out.2 _ (gp_mem hlt)
              by_cases hk0 : k = 0
              · subst hk0
                simp only [Nat.zero_mul, Nat.add_zero] at c0 c1
                clear HCq HLq HC HI HTS
                generalize (gp Q 0).1 = p at *
                generalize (gp Q 0).2 = q at *
                generalize sumL (Q.take 0) = T at *
                have hd1 : decide (q ≤ p) = false := by simpa using hz
                go_wp2_with fail
                go_quiet (fail)
                go_wp2_with fail
                go_quiet (fail)
                go_wp2_with fail
                go_roundw
                case rel => exact ⟨0 + 1, by omega, by go_num, by rw [HX.out], below_drewN hbr _⟩
                case measure => simp [intOf]; omega
              · obtain ⟨j, rfl⟩ : ∃ j, k = j + 1 := ⟨k - 1, by omega⟩
                obtain ⟨d0, d1⟩ := HCq.out j (by omega)
                have d1 := cell_below d1 hbr
                have hpq := canon_gp HC.out (i := j) (j := j + 1) (by omega) hlt
                obtain ⟨K, hK⟩ : ∃ K, K = j + 1 := ⟨_, rfl⟩
                rw [← hK] at hlt hkl HX z0 zz z1 hz c0 c1 hpq t0 t1 ⊢
                have hKj : (K : Int) - 1 = (j : Int) := by omega
                have hK0 : (0 : Int) < (K : Int) := by omega
                have hj0 : (0 : Int) ≤ (j : Int) := by omega
                have hjl : (j : Int) < (Q.length : Int) := by omega
                have wj : IntKind.i64.wrap ((K : Int) - 1) = (j : Int) := by rw [hKj]; exact IntWalk.i64_in _ (by omega)
                have HK1 := Lib.hid hK
                clear HCq HLq HC HI HTS hK d0
                generalize (gp Q K).1 = p at *
                generalize (gp Q K).2 = q at *
                generalize (gp Q j).2 = r at *
                generalize sumL (Q.take K) = T at *
                have hd1 : decide (q ≤ p) = false := by simpa using hz
                have hd2 : decide (0 < (K : Int)) = true := by simpa using hK0
                have hKn : 0 < K := by omega
                have hd4 : decide (0 < K) = true := by simpa using hKn
                have hd3 : decide (p ≤ r) = false := by simpa using hpq
                go_wp2_with fail
                go_quiet (fail)
                go_wp2_with fail
                go_quiet (fail)
                go_wp2_with fail
                go_roundw
                case rel => exact ⟨K + 1, by omega, by go_num, by rw [HX.out], below_drewN hbr _⟩
                case measure => simp [intOf]; omega
            · obtain rfl : k = Q.length := by omega
              have q0 := cell_below q0 hbr
              have q1 := cell_below q1 hbr
              have hb := below_on hb hbr
              have hS : sumL (Q.take Q.length) ≤ y - x := by rw [List.take_length]; exact hsum
              clear HCq HLq HC HI HTS hsum
              generalize sumL (Q.take Q.length) = T at *
              go_wp2_with fail
              refine (HA.out _).mono ?_
              rintro e w9 ⟨rfl, hb9⟩
              go_wp2_with fail
              go_ret
              exact ⟨rfl, below_on hb hb9⟩

      · have hE3b : (E3 == 0) = false := by rcases hE3 with rfl | rfl | rfl <;> decide
        clear hE3 HKO
        rcases hE with ⟨rfl, rfl, hv⟩ | ⟨rfl, hv⟩ | hv
        all_goals
          go_enter Try.func6, Try.ntmps6
          go_wp2_with fail
          obtain ⟨wB, hwB⟩ : ∃ wB, ((w.alloc (.cells #[.int .i64 N, .int .i64 L, .slice a l.length ca] 24)).alloc (.cells #[.int .i64 x, .int .i64 y] 35)).alloc (.cells #[.int .i64 u, .int .i64 v] 32) = wB := ⟨_, rfl⟩
          have HB := Lib.hid (((RdBox.start w N L a l ca 24).alloc (.cells #[.int .i64 x, .int .i64 y] 35)).alloc (.cells #[.int .i64 u, .int .i64 v] 32))
          have q0 : wB.cell? ⟨w.heap.size + 1, 0, none⟩ = some (.int .i64 x) := by rw [← hwB]; simp [go_sem]
          have q1 : wB.cell? ⟨w.heap.size + 1, 1, none⟩ = some (.int .i64 y) := by rw [← hwB]; simp [go_sem]
          have r0 : wB.cell? ⟨w.heap.size + 1 + 1, 0, none⟩ = some (.int .i64 u) := by rw [← hwB]; simp [go_sem]
          have r1 : wB.cell? ⟨w.heap.size + 1 + 1, 1, none⟩ = some (.int .i64 v) := by rw [← hwB]; simp [go_sem]
          rw [hwB] at HB ⊢
          clear hwB
          obtain ⟨hb, p0, p1, p2⟩ := HB.out
          refine (HM.out _ hb).mono ?_
          rintro e w1 ⟨rfl, hb1⟩
          have q0 := cell_below q0 hb1
          have q1 := cell_below q1 hb1
          have r0 := cell_below r0 hb1
          have r1 := cell_below r1 hb1
          have HB := Lib.hid (HB.out.on hb1)
          obtain ⟨hb, p0, p1, p2⟩ := HB.out
          clear hb1
          go_wp2_with fail
          refine (HC1.out _ hb).mono ?_
          rintro e w2 ⟨rfl, hb2⟩
          have q0 := cell_below q0 hb2
          have q1 := cell_below q1 hb2
          have r0 := cell_below r0 hb2
          have r1 := cell_below r1 hb2
          have HB := Lib.hid (HB.out.on hb2)
          obtain ⟨hb, p0, p1, p2⟩ := HB.out
          clear hb2
          go_wp2_with fail
          refine (HC2.out _ hb).mono ?_
          rintro e w3 ⟨rfl, hb3⟩
          have q0 := cell_below q0 hb3
          have q1 := cell_below q1 hb3
          have r0 := cell_below r0 hb3
          have r1 := cell_below r1 hb3
          have HB := Lib.hid (HB.out.on hb3)
          obtain ⟨hb, p0, p1, p2⟩ := HB.out
          clear hb3
          go_wp2_with fail
          refine (HK.out _ hb).mono ?_
          rintro e w4 ⟨bk, ck, rfl, hP, hb4, hck⟩
          have HP := Lib.hid hP
          clear hP hck
          have q0 := cell_below q0 hb4
          have q1 := cell_below q1 hb4
          have r0 := cell_below r0 hb4
          have r1 := cell_below r1 hb4
          have HB := Lib.hid (HB.out.on hb4)
          obtain ⟨hb, p0, p1, p2⟩ := HB.out
          clear hb4
          go_wp2_with fail
          refine (HA.out _).mono ?_
          rintro e w9 ⟨rfl, hb9⟩
          go_wp2_with fail
          go_ret
          exact ⟨rfl, below_on hb hb9⟩

end Go.Proofs.Ytacmeadmmjehmaa
