/-
  carry and Carry of package road. By an AI agent.
-/
import Derived.Test.YtdiabpcpcilclaaRoadE
import Derived.Deep.RegionHeld3
namespace Go.Proofs.Ytdiabpcpcilclaa
set_option linter.unusedVariables false
set_option linter.unusedSimpArgs false
open Go.RowKit

set_option maxRecDepth 100000 in
theorem swaps_eq (N L : Int) (a : Option Addr) (l : List Chg) (ca : Nat) (u : Nat) (w : World) (hA : QuadS w a l) (hca : l.length ≤ ca) (hu : u ≤ l.length) :
    Calls Try.prog 35 #[.agg #[.int .i64 N, .int .i64 L, .slice a l.length ca], .int .i64 u, .int .i64 u] w (SwE w l u u) := by
  obtain ⟨hlen, -, blk, off, hadr, hc⟩ := hA
  have hend : Hid (∀ W, Below w.heap.size w W → SwE w l u u (.returned (.slice none 0 0)) W) := Lib.hid fun W hW => SwE.mk (by unfold dst; omega) (by
    have e : wayL l u u = [] := by unfold wayL dst; simp
    rw [e]; exact trips_nil W) hW
  have e1 := Lib.hid (show min (u : Int) (u : Int) = u by omega)
  have e2 := Lib.hid (show max (u : Int) (u : Int) = u by omega)
  have hca' : (u : Int) ≤ (ca : Int) := by omega
  have hu0 : (0 : Int) ≤ (u : Int) := by omega
  have hz : u - u = 0 := by omega
  clear hc hadr
  rcases (show u < ca ∨ ca = u by omega) with h | h
  all_goals
    cases a with
    | none =>
      go_enter Try.func35, Try.ntmps35
      go_wp2_with fail
      try simp only [e1.out, e2.out, Int.toNat_natCast, hz]
      go_loopw [7, 21] (fun x i wr => x = .slice none 0 0 ∧ i = .int .i64 0 ∧ Below w.heap.size w wr) (fun _ _ _ => 0)
      case atStart => exact ⟨rfl, rfl, (Below.refl _ _).alloc (Nat.le_refl _) _⟩
      case round =>
        obtain ⟨rfl, rfl, hb⟩ := hrel
        go_wp2_with fail
        go_ret
        exact hend.out _ hb

    | some p =>
      go_enter Try.func35, Try.ntmps35
      go_wp2_with fail
      try simp only [e1.out, e2.out, Int.toNat_natCast, hz]
      go_loopw [7, 21] (fun x i wr => x = .slice none 0 0 ∧ i = .int .i64 0 ∧ Below w.heap.size w wr) (fun _ _ _ => 0)
      case atStart => exact ⟨rfl, rfl, (Below.refl _ _).alloc (Nat.le_refl _) _⟩
      case round =>
        obtain ⟨rfl, rfl, hb⟩ := hrel
        go_wp2_with fail
        go_ret
        exact hend.out _ hb

theorem swaps_any (N L : Int) (a : Option Addr) (l : List Chg) (ca : Nat) (u v : Nat) (w : World) (hA : QuadS w a l) (hca : l.length ≤ ca) (hR : RoadOk N L l) (hu : u ≤ l.length) (hv : v ≤ l.length) :
    Calls Try.prog 35 #[.agg #[.int .i64 N, .int .i64 L, .slice a l.length ca], .int .i64 u, .int .i64 v] w (SwE w l u v) := by
  rcases Nat.lt_trichotomy u v with h | h | h
  · exact swaps_up N L a l ca u v w hA hca hR h hv
  · subst h; exact swaps_eq N L a l ca u w hA hca hu
  · exact swaps_dn N L a l ca u v w hA hca hR h hu

/-- What carry returns for a place. -/
def carR (o : Option Int) : Value := match o with
  | some x => .tuple #[.int .i64 x, .bool true]
  | none => .tuple #[.int .i64 0, .bool false]
set_option maxRecDepth 100000 in
set_option maxHeartbeats 1000000 in
theorem carry_any (c : Int) (b : Option Addr) (s : List Sw) (cap : Nat) (len : Nat → Int) (w : World) (hT : TripS w b s) (hs : ∀ j, j < s.length → swOk (len j) (len (j + 1)) (gw s j)) (h0 : 0 ≤ c) (h1 : c ≤ len 0) (hl : len 0 ≤ 10000000) :
    Calls Try.prog 52 #[.int .i64 c, .slice b s.length cap] w fun e w' => e = .returned (carR (carK (gw s) c s.length)) ∧ Below w.heap.size w w' := by
  obtain ⟨hlen, -, blk, off, hadr, hc⟩ := hT
  have HC := Lib.hid hc
  have HA : Hid (0 < s.length → b = some ⟨blk, off, none⟩) := Lib.hid fun h => hadr (pos_ne (n := 0) h)
  have HB : Hid (∀ k x, k < s.length → carK (gw s) c k = some x → (0 ≤ x ∧ x ≤ 10000000) ∧ ((0 ≤ (gw s k).1 ∧ (gw s k).1 ≤ 10000000) ∧ (0 ≤ (gw s k).2.1 ∧ (gw s k).2.1 ≤ 10000000) ∧ 0 ≤ (gw s k).2.2 ∧ (gw s k).2.2 ≤ 10000000)) := Lib.hid fun k x hk hx => by
    have hb := carK_bd (n := s.length) hs h0 h1 k (by omega) x hx
    have ho := hs k hk
    have := ho.2.2.2.1
    exact ⟨⟨hb.1, by omega⟩, sw_bd ho⟩
  have HS : Hid (∀ k x, carK (gw s) c k = some x → carK (gw s) c (k + 1) = mv (gw s k) x) := Lib.hid fun k x h => by rw [carK, h]; rfl
  have HN : Hid (∀ k, k ≤ s.length → carK (gw s) c k = none → carR (carK (gw s) c s.length) = .tuple #[.int .i64 0, .bool false]) := Lib.hid fun k hk h => by rw [carK_none h _ hk]; rfl
  have HE : Hid (∀ x, carK (gw s) c s.length = some x → carR (carK (gw s) c s.length) = .tuple #[.int .i64 x, .bool true]) := Lib.hid fun x h => by rw [h]; rfl
  have HI : Hid (carK (gw s) c 0 = some c) := Lib.hid rfl
  generalize carR (carK (gw s) c s.length) = RR at *
  obtain ⟨K, hK⟩ : ∃ K, carK (gw s) c = K := ⟨_, rfl⟩
  rw [hK] at HB HS HN HE HI
  clear hc hadr hs hK h0 h1
  go_enter Try.func52, Try.ntmps52
  go_wp2_with fail
  go_loopw [0, 10] (fun x i wr => ∃ (k : Nat) (z : Int), k ≤ s.length ∧ x = .int .i64 z ∧ i = .int .i64 k ∧ Below w.heap.size w wr ∧ Hid (K k = some z)) (fun _ i _ => s.length - (intOf i).toNat)
  case atStart => exact ⟨0, c, Nat.zero_le _, rfl, rfl, Below.refl _ _, HI⟩
  case round =>
    obtain ⟨k, z, hk, rfl, rfl, hb, HZ⟩ := hrel
    by_cases hlt : k < s.length
    · obtain rfl := HA.out (by omega)
      obtain ⟨c0, c1, c2⟩ := HC.out k hlt
      have c0 := cell_below c0 hb
      have c1 := cell_below c1 hb
      have c2 := cell_below c2 hb
      obtain ⟨⟨z0, z1⟩, ⟨a0, a1⟩, ⟨b0, b1⟩, d0, d1⟩ := HB.out k z hlt HZ.out
      have HX : Hid (K (k + 1) = if z ≤ (gw s k).1 then some z else if (gw s k).1 + (gw s k).2.1 ≤ z then some (z + (gw s k).2.2 - (gw s k).2.1) else none) := Lib.hid (HS.out k z HZ.out)
      have HNk := Lib.hid (HN.out (k + 1) (by omega))
      clear HC HB HS HN HE HA HI HZ
      generalize (gw s k).1 = A at *
      generalize (gw s k).2.1 = B at *
      generalize (gw s k).2.2 = D at *
      by_cases g1 : z ≤ A
      · have HX1 : Hid (K (k + 1) = some z) := Lib.hid (by rw [HX.out, if_pos g1])
        clear HX HNk
        go_wp2_with fail
        go_roundw
        case rel => exact ⟨k + 1, z, by omega, rfl, by go_num, hb.alloc hb.size _, HX1⟩
        case measure => simp [intOf]; omega
      · by_cases g2 : A + B ≤ z
        · have HX1 : Hid (K (k + 1) = some (z + (D - B))) := Lib.hid (by rw [HX.out, if_neg g1, if_pos g2]; congr 1; omega)
          clear HX HNk
          go_wp2_with fail
          go_roundw
          case rel => exact ⟨k + 1, z + (D - B), by omega, rfl, by go_num, hb.alloc hb.size _, HX1⟩
          case measure => simp [intOf]; omega
        · have HR := Lib.hid (HNk.out (by rw [HX.out, if_neg g1, if_neg g2]))
          clear HX HNk
          go_wp2_with fail
          go_ret2
          exact ⟨by rw [HR.out]; rfl, hb.alloc hb.size _⟩
    · obtain rfl : k = s.length := by omega
      have HR := Lib.hid (HE.out z HZ.out)
      clear HC HB HS HN HE HA HI HZ
      go_wp2_with fail
      go_ret2
      exact ⟨by rw [HR.out]; rfl, hb⟩

/-- What Carry returns: its error and its value. -/
def carP (l : List Chg) (c : Int) (u v : Nat) : Option Int := carK (swK l u v) c (dst u v)
noncomputable def carE (N L : Int) (l : List Chg) (c u v : Int) : Int :=
  if errL N L l [u, v] = 0 then (if btw c 0 (lenK L l u.toNat) = true then (match carP l c u.toNat v.toNat with | some _ => 0 | none => 62) else 2) else errL N L l [u, v]
noncomputable def carV (N L : Int) (l : List Chg) (c u v : Int) : Int := if carE N L l c u v = 0 then (carP l c u.toNat v.toNat).getD 0 else 0
theorem car_way (l : List Chg) (c : Int) (u v : Nat) : carK (gw (wayL l u v)) c (wayL l u v).length = carP l c u v := by
  unfold carP
  rw [way_len]
  exact carK_congr _ fun j hj => way_at l u v hj
theorem ver_ok {N L : Int} {l : List Chg} {u v : Int} (h : winB 0 l.length [u, v] = true) : (0 ≤ u ∧ u ≤ l.length) ∧ 0 ≤ v ∧ v ≤ l.length := by
  rw [win2, Bool.and_eq_true, btw_iff, btw_iff] at h
  exact h

set_option maxRecDepth 100000 in
set_option maxHeartbeats 1000000 in
theorem Carry_any (N L : Int) (a : Option Addr) (l : List Chg) (ca : Nat) (c u v : Int) (w : World) (hA : QuadS w a l) (hca : l.length ≤ ca) :
    Calls Try.prog 30 #[.agg #[.int .i64 N, .int .i64 L, .slice a l.length ca], .int .i64 c, .int .i64 u, .int .i64 v] w fun e w' => e = .returned (.tuple #[.int .i64 (carV N L l c u v), .int .i64 (carE N L l c u v)]) ∧ Below w.heap.size w w' := by
  have HE := Lib.hid (fun W (hW : Below w.heap.size w W) b (h1 : W.cell? ⟨b, 0, none⟩ = some (.int .i64 u)) (h2 : W.cell? ⟨b, 1, none⟩ = some (.int .i64 v)) => roadErr_any N L a l ca (some ⟨b, 0, none⟩) [u, v] 2 W (hA.below hW) (ints2 h1 h2))
  have hlen := hA.1
  rcases errL_cases N L l [u, v] with ⟨hr, hw, he⟩ | he | he
  · rw [he] at HE
    obtain ⟨⟨u0, u1⟩, v0, v1⟩ := ver_ok (N := N) (L := L) hw
    obtain ⟨x, rfl⟩ : ∃ n : Nat, u = n := ⟨u.toNat, by omega⟩
    obtain ⟨y, rfl⟩ : ∃ n : Nat, v = n := ⟨v.toNat, by omega⟩
    have HL := Lib.hid (fun W (hW : Below w.heap.size w W) => lengthOf_any N L a l ca x W (hA.below hW) hca hr (by omega))
    by_cases hc : 0 ≤ c ∧ c ≤ lenK L l x
    · have HC1 := Lib.hid (btw_t hc.1 hc.2)
      have HSw := Lib.hid (fun W (hW : Below w.heap.size w W) => swaps_any N L a l ca x y W (hA.below hW) hca hr (by omega) (by omega))
      have HCar : Hid (∀ b c4 W, TripS W b (wayL l x y) → Calls Try.prog 52 #[.int .i64 c, .slice b (dst x y) c4] W fun e w' => e = .returned (carR (carP l c x y)) ∧ Below W.heap.size W w') := Lib.hid fun b c4 W hT => by
        have := carry_any c b (wayL l x y) c4 (fun j => lenK L l (posK x y j)) W hT (fun j hj => by
          rw [way_len] at hj
          rw [way_at l x y hj]
          exact sw_ok hr (by omega) (by omega) hj) hc.1 (by rw [pos_0]; exact hc.2) (by rw [pos_0]; exact (len_bd hr x (by omega)).2)
        rw [car_way, way_len] at this
        exact this
      cases hp : carP l c x y with
      | some z =>
        have e1 : carE N L l c x y = 0 := by unfold carE; rw [if_pos he, Int.toNat_natCast, Int.toNat_natCast, HC1.out, if_pos rfl, hp]
        have e2 : carV N L l c x y = z := by unfold carV; rw [if_pos e1, Int.toNat_natCast, Int.toNat_natCast, hp]; rfl
        rw [e1, e2]
        rw [hp] at HCar
        unfold carR at HCar
        clear hA hr hw he hp e1 e2 hc
        go_enter Try.func30, Try.ntmps30
        go_wp2_with fail
        obtain ⟨wB, hwB⟩ : ∃ wB, (w.alloc (.cells #[.int .i64 N, .int .i64 L, .slice a l.length ca] 24)).alloc (.cells #[.int .i64 x, .int .i64 y] 3) = wB := ⟨_, rfl⟩
        have HB := Lib.hid ((RdBox.start w N L a l ca 24).alloc (.cells #[.int .i64 x, .int .i64 y] 3))
        have pu : wB.cell? ⟨w.heap.size + 1, 0, none⟩ = some (.int .i64 x) := by rw [← hwB]; simp [go_sem]
        have pv : wB.cell? ⟨w.heap.size + 1, 1, none⟩ = some (.int .i64 y) := by rw [← hwB]; simp [go_sem]
        rw [hwB] at HB ⊢
        clear hwB
        obtain ⟨hb, p0, p1, p2⟩ := HB.out
        refine (HE.out _ hb _ pu pv).mono ?_
        rintro e w1 ⟨rfl, hb1⟩
        clear pu pv
        have HB := Lib.hid (HB.out.on hb1)
        obtain ⟨hb, p0, p1, p2⟩ := HB.out
        clear hb1
        go_wp2_with fail
        refine (HL.out _ hb).mono ?_
        rintro e w2 ⟨rfl, hb2⟩
        have HB := Lib.hid (HB.out.on hb2)
        obtain ⟨hb, p0, p1, p2⟩ := HB.out
        clear hb2
        go_wp2_with fail
        refine (within1_any _ _ c _ _ (by simp [go_sem])).mono ?_
        rintro e w3 ⟨rfl, hb3⟩
        rw [HC1.out]
        have HB := Lib.hid ((HB.out.alloc _).on hb3)
        obtain ⟨hb, p0, p1, p2⟩ := HB.out
        clear hb3
        go_wp2_with fail
        refine (HSw.out _ hb).mono ?_
        rintro e w4 ⟨b, c4, rfl, hT, hb4⟩
        have HCa := Lib.hid (HCar.out b c4 w4 hT)
        clear hT
        have HB := Lib.hid (HB.out.on hb4)
        obtain ⟨hb, p0, p1, p2⟩ := HB.out
        clear hb4
        go_wp2_with fail
        refine HCa.out.mono ?_
        rintro e w5 ⟨rfl, hb5⟩
        have HB := Lib.hid (HB.out.on hb5)
        obtain ⟨hb, p0, p1, p2⟩ := HB.out
        clear hb5
        go_wp2_with fail
        go_ret2
        exact ⟨rfl, hb⟩

      | none =>
        have e1 : carE N L l c x y = 62 := by unfold carE; rw [if_pos he, Int.toNat_natCast, Int.toNat_natCast, HC1.out, if_pos rfl, hp]
        have e2 : carV N L l c x y = 0 := by unfold carV; rw [e1]; rfl
        rw [e1, e2]
        rw [hp] at HCar
        unfold carR at HCar
        clear hA hr hw he hp e1 e2 hc
        go_enter Try.func30, Try.ntmps30
        go_wp2_with fail
        obtain ⟨wB, hwB⟩ : ∃ wB, (w.alloc (.cells #[.int .i64 N, .int .i64 L, .slice a l.length ca] 24)).alloc (.cells #[.int .i64 x, .int .i64 y] 3) = wB := ⟨_, rfl⟩
        have HB := Lib.hid ((RdBox.start w N L a l ca 24).alloc (.cells #[.int .i64 x, .int .i64 y] 3))
        have pu : wB.cell? ⟨w.heap.size + 1, 0, none⟩ = some (.int .i64 x) := by rw [← hwB]; simp [go_sem]
        have pv : wB.cell? ⟨w.heap.size + 1, 1, none⟩ = some (.int .i64 y) := by rw [← hwB]; simp [go_sem]
        rw [hwB] at HB ⊢
        clear hwB
        obtain ⟨hb, p0, p1, p2⟩ := HB.out
        refine (HE.out _ hb _ pu pv).mono ?_
        rintro e w1 ⟨rfl, hb1⟩
        clear pu pv
        have HB := Lib.hid (HB.out.on hb1)
        obtain ⟨hb, p0, p1, p2⟩ := HB.out
        clear hb1
        go_wp2_with fail
        refine (HL.out _ hb).mono ?_
        rintro e w2 ⟨rfl, hb2⟩
        have HB := Lib.hid (HB.out.on hb2)
        obtain ⟨hb, p0, p1, p2⟩ := HB.out
        clear hb2
        go_wp2_with fail
        refine (within1_any _ _ c _ _ (by simp [go_sem])).mono ?_
        rintro e w3 ⟨rfl, hb3⟩
        rw [HC1.out]
        have HB := Lib.hid ((HB.out.alloc _).on hb3)
        obtain ⟨hb, p0, p1, p2⟩ := HB.out
        clear hb3
        go_wp2_with fail
        refine (HSw.out _ hb).mono ?_
        rintro e w4 ⟨b, c4, rfl, hT, hb4⟩
        have HCa := Lib.hid (HCar.out b c4 w4 hT)
        clear hT
        have HB := Lib.hid (HB.out.on hb4)
        obtain ⟨hb, p0, p1, p2⟩ := HB.out
        clear hb4
        go_wp2_with fail
        refine HCa.out.mono ?_
        rintro e w5 ⟨rfl, hb5⟩
        have HB := Lib.hid (HB.out.on hb5)
        obtain ⟨hb, p0, p1, p2⟩ := HB.out
        clear hb5
        go_wp2_with fail
        go_ret2
        exact ⟨rfl, hb⟩

    · have HC1 := Lib.hid (btw_f hc)
      have e1 : carE N L l c x y = 2 := by unfold carE; rw [if_pos he, Int.toNat_natCast, HC1.out]; rfl
      have e2 : carV N L l c x y = 0 := by unfold carV; rw [e1]; rfl
      rw [e1, e2]
      clear hA hr hw he e1 e2 hc
      go_enter Try.func30, Try.ntmps30
      go_wp2_with fail
      obtain ⟨wB, hwB⟩ : ∃ wB, (w.alloc (.cells #[.int .i64 N, .int .i64 L, .slice a l.length ca] 24)).alloc (.cells #[.int .i64 x, .int .i64 y] 3) = wB := ⟨_, rfl⟩
      have HB := Lib.hid ((RdBox.start w N L a l ca 24).alloc (.cells #[.int .i64 x, .int .i64 y] 3))
      have pu : wB.cell? ⟨w.heap.size + 1, 0, none⟩ = some (.int .i64 x) := by rw [← hwB]; simp [go_sem]
      have pv : wB.cell? ⟨w.heap.size + 1, 1, none⟩ = some (.int .i64 y) := by rw [← hwB]; simp [go_sem]
      rw [hwB] at HB ⊢
      clear hwB
      obtain ⟨hb, p0, p1, p2⟩ := HB.out
      refine (HE.out _ hb _ pu pv).mono ?_
      rintro e w1 ⟨rfl, hb1⟩
      clear pu pv
      have HB := Lib.hid (HB.out.on hb1)
      obtain ⟨hb, p0, p1, p2⟩ := HB.out
      clear hb1
      go_wp2_with fail
      refine (HL.out _ hb).mono ?_
      rintro e w2 ⟨rfl, hb2⟩
      have HB := Lib.hid (HB.out.on hb2)
      obtain ⟨hb, p0, p1, p2⟩ := HB.out
      clear hb2
      go_wp2_with fail
      refine (within1_any _ _ c _ _ (by simp [go_sem])).mono ?_
      rintro e w3 ⟨rfl, hb3⟩
      rw [HC1.out]
      have HB := Lib.hid ((HB.out.alloc _).on hb3)
      obtain ⟨hb, p0, p1, p2⟩ := HB.out
      clear hb3
      go_wp2_with fail
      go_ret2
      exact ⟨rfl, hb⟩

  · have e1 : carE N L l c u v = 60 := by unfold carE; rw [if_neg (by rw [he]; decide), he]
    have e2 : carV N L l c u v = 0 := by unfold carV; rw [e1]; rfl
    rw [he] at HE
    rw [e1, e2]
    clear hA he e1 e2
    go_enter Try.func30, Try.ntmps30
    go_wp2_with fail
    obtain ⟨wB, hwB⟩ : ∃ wB, (w.alloc (.cells #[.int .i64 N, .int .i64 L, .slice a l.length ca] 24)).alloc (.cells #[.int .i64 u, .int .i64 v] 3) = wB := ⟨_, rfl⟩
    have HB := Lib.hid ((RdBox.start w N L a l ca 24).alloc (.cells #[.int .i64 u, .int .i64 v] 3))
    have pu : wB.cell? ⟨w.heap.size + 1, 0, none⟩ = some (.int .i64 u) := by rw [← hwB]; simp [go_sem]
    have pv : wB.cell? ⟨w.heap.size + 1, 1, none⟩ = some (.int .i64 v) := by rw [← hwB]; simp [go_sem]
    rw [hwB] at HB ⊢
    clear hwB
    obtain ⟨hb, p0, p1, p2⟩ := HB.out
    refine (HE.out _ hb _ pu pv).mono ?_
    rintro e w1 ⟨rfl, hb1⟩
    clear pu pv
    have HB := Lib.hid (HB.out.on hb1)
    obtain ⟨hb, p0, p1, p2⟩ := HB.out
    clear hb1
    go_wp2_with fail
    go_ret2
    exact ⟨rfl, hb⟩

  · have e1 : carE N L l c u v = 61 := by unfold carE; rw [if_neg (by rw [he]; decide), he]
    have e2 : carV N L l c u v = 0 := by unfold carV; rw [e1]; rfl
    rw [he] at HE
    rw [e1, e2]
    clear hA he e1 e2
    go_enter Try.func30, Try.ntmps30
    go_wp2_with fail
    obtain ⟨wB, hwB⟩ : ∃ wB, (w.alloc (.cells #[.int .i64 N, .int .i64 L, .slice a l.length ca] 24)).alloc (.cells #[.int .i64 u, .int .i64 v] 3) = wB := ⟨_, rfl⟩
    have HB := Lib.hid ((RdBox.start w N L a l ca 24).alloc (.cells #[.int .i64 u, .int .i64 v] 3))
    have pu : wB.cell? ⟨w.heap.size + 1, 0, none⟩ = some (.int .i64 u) := by rw [← hwB]; simp [go_sem]
    have pv : wB.cell? ⟨w.heap.size + 1, 1, none⟩ = some (.int .i64 v) := by rw [← hwB]; simp [go_sem]
    rw [hwB] at HB ⊢
    clear hwB
    obtain ⟨hb, p0, p1, p2⟩ := HB.out
    refine (HE.out _ hb _ pu pv).mono ?_
    rintro e w1 ⟨rfl, hb1⟩
    clear pu pv
    have HB := Lib.hid (HB.out.on hb1)
    obtain ⟨hb, p0, p1, p2⟩ := HB.out
    clear hb1
    go_wp2_with fail
    go_ret2
    exact ⟨rfl, hb⟩

end Go.Proofs.Ytdiabpcpcilclaa
