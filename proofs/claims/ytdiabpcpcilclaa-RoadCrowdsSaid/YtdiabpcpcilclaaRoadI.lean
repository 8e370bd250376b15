/-
  Kept and Gone of package road. By an AI agent.
-/
import Derived.Test.YtdiabpcpcilclaaRoadF
import Derived.Test.YtdiabpcpcilclaaRoadH
import Derived.Deep.RegionHeld3
namespace Go.Proofs.Ytdiabpcpcilclaa
set_option linter.unusedVariables false
set_option linter.unusedSimpArgs false
open Go.RowKit

def keptP (l : List Chg) (p : Spn) (u v : Nat) : List Spn := keptK (swK l u v) p (dst u v)
noncomputable def kpE (N L : Int) (l : List Chg) (x y u v : Int) : Int := if errL N L l [u, v] = 0 then (if strB x y (lenK L l u.toNat) = true then 0 else 2) else errL N L l [u, v]
noncomputable def kpL (N L : Int) (l : List Chg) (x y u v : Int) : List Spn := if kpE N L l x y u v = 0 then canL (keptP l (x, y) u.toNat v.toNat) else []
/-- A list of stretches and an error. -/
def LstE (w : World) (q : List Spn) (x : Int) (e : Ending) (w' : World) : Prop := ∃ b c, e = .returned (.tuple #[.slice b q.length c, .int .i64 x]) ∧ PairsS w' b q ∧ Below w.heap.size w w' ∧ q.length ≤ c
theorem UniE.can {w w' : World} {X : List Spn} {e : Ending} (h : UniE w X e w') (hV : AllV X) (hI : InV 10000000 X) (hl : X.length ≤ 100000000) : ∃ b c, e = .returned (.slice b (canL X).length c) ∧ PairsS w' b (canL X) ∧ Below w.heap.size w w' ∧ (canL X).length ≤ c := by
  obtain ⟨d, hp, hA, b, c, he, ho, hb⟩ := h
  have hj := (join_eq hV hp hA).1
  rw [hj] at he ho
  have hle := (canL_ok hV).2.2
  refine ⟨b, c, he, pairs_own ho (by omega) (fun j hj2 => ?_), hb, ?_⟩
  · have hm := gp_mem hj2
    rw [← hj] at hm
    obtain ⟨⟨q, hq, e1⟩, r, hr, e2⟩ := joinK_from d d.length (Nat.le_refl _) _ hm
    have hq := hI q (hp.mem_iff.1 hq)
    have hr := hI r (hp.mem_iff.1 hr)
    rw [← hj]
    unfold I64; omega
  · rcases ho.2 with ⟨h1, h2⟩ | ⟨g, cap, cur, h1, _, _, h4, _⟩
    · omega
    · obtain ⟨_, rfl⟩ : b = some ⟨g, 0, none⟩ ∧ c = cap := by simpa using h1
      exact h4
theorem kept_way (l : List Chg) (p : Spn) (u v : Nat) : keptK (gw (wayL l u v)) p (wayL l u v).length = keptP l p u v := by
  unfold keptP
  rw [way_len]
  exact keptK_congr _ fun j hj => way_at l u v hj
theorem keptP_in {N L : Int} {l : List Chg} (h : RoadOk N L l) {u v : Nat} (hu : u ≤ l.length) (hv : v ≤ l.length) {p : Spn} (hp : 0 ≤ p.1 ∧ p.1 ≤ p.2 ∧ p.2 ≤ lenK L l u) : InV 10000000 (keptP l p u v) ∧ (keptP l p u v).length ≤ 10000000 ∧ sumL (keptP l p u v) ≤ p.2 - p.1 := by
  have hs : ∀ j, j < dst u v → swOk (lenK L l (posK u v j)) (lenK L l (posK u v (j + 1))) (swK l u v j) := fun j hj => sw_ok h hu hv hj
  have hb := len_bd h u hu
  have h1 := keptK_in (len := fun j => lenK L l (posK u v j)) (p := p) hs (by rw [pos_0]; exact hp) (dst u v) (Nat.le_refl _)
  have h2 := keptK_len (len := fun j => lenK L l (posK u v j)) (p := p) hs (by rw [pos_0]; exact hp) (by rw [pos_0]; exact hb.2) (dst u v) (Nat.le_refl _)
  have h3 := keptK_sum (len := fun j => lenK L l (posK u v j)) (p := p) hs (by rw [pos_0]; exact hp) (dst u v) (Nat.le_refl _)
  have hb2 := len_bd h v hv
  rw [pos_end] at h1
  exact ⟨fun q hq => by have := h1 q hq; omega, h2, h3⟩
theorem keptW_any (N L : Int) (a : Option Addr) (l : List Chg) (ca : Nat) (x y : Int) (u v : Nat) (hr : RoadOk N L l) (hu : u ≤ l.length) (hv : v ≤ l.length) (hx : 0 ≤ x ∧ x ≤ y ∧ y ≤ lenK L l u) (b : Option Addr) (c : Nat) (W : World) (hT : TripS W b (wayL l u v)) :
    Calls Try.prog 34 #[.agg #[.int .i64 x, .int .i64 y], .slice b (dst u v) c] W (UniE W (keptP l (x, y) u v)) := by
  have := kept_any x y b (wayL l u v) c (fun j => lenK L l (posK u v j)) W hT (fun j hj => by
    rw [way_len] at hj
    rw [way_at l u v hj]
    exact sw_ok hr hu hv hj) (by rw [pos_0]; exact hx) (by rw [pos_0]; exact (len_bd hr u hu).2)
  rw [kept_way, way_len] at this
  exact this
set_option maxRecDepth 100000 in
set_option maxHeartbeats 4000000 in
theorem Kept_any (N L : Int) (a : Option Addr) (l : List Chg) (ca : Nat) (x y u v : Int) (w : World) (hA : QuadS w a l) (hca : l.length ≤ ca) :
    Calls Try.prog 10 #[.agg #[.int .i64 N, .int .i64 L, .slice a l.length ca], .agg #[.int .i64 x, .int .i64 y], .int .i64 u, .int .i64 v] w (LstE w (kpL N L l x y u v) (kpE N L l x y u v)) := by
  have HE := Lib.hid (fun W (hW : Below w.heap.size w W) b (h1 : W.cell? ⟨b, 0, none⟩ = some (.int .i64 u)) (h2 : W.cell? ⟨b, 1, none⟩ = some (.int .i64 v)) => roadErr_any N L a l ca (some ⟨b, 0, none⟩) [u, v] 2 W (hA.below hW) (ints2 h1 h2))
  have hlen := hA.1
  rcases errL_cases N L l [u, v] with ⟨hr, hw, he⟩ | he | he
  · rw [he] at HE
    obtain ⟨⟨u0, u1⟩, v0, v1⟩ := ver_ok (N := N) (L := L) hw
    obtain ⟨i, rfl⟩ : ∃ n : Nat, u = n := ⟨u.toNat, by omega⟩
    obtain ⟨j, rfl⟩ : ∃ n : Nat, v = n := ⟨v.toNat, by omega⟩
    have HL := Lib.hid (fun W (hW : Below w.heap.size w W) => lengthOf_any N L a l ca i W (hA.below hW) hca hr (by omega))
    have HS := Lib.hid (fun W => isStretch_any x y (lenK L l i) W)
    by_cases hc : 0 ≤ x ∧ x < y ∧ y ≤ lenK L l i
    · have hst := strB_t hc
      have e1 : kpE N L l x y i j = 0 := by unfold kpE; rw [if_pos he, Int.toNat_natCast, hst, if_pos rfl]
      have e2 : kpL N L l x y i j = canL (keptP l (x, y) i j) := by unfold kpL; rw [if_pos e1, Int.toNat_natCast, Int.toNat_natCast]
      rw [e1, e2]
      rw [hst] at HS
      obtain ⟨hk1, hk2, hk3⟩ := keptP_in hr (u := i) (v := j) (p := (x, y)) (by omega) (by omega) ⟨hc.1, by simp only []; omega, hc.2.2⟩
      have HSw := Lib.hid (fun W (hW : Below w.heap.size w W) => swaps_any N L a l ca i j W (hA.below hW) hca hr (by omega) (by omega))
      have HKp := Lib.hid (fun b c W (hT : TripS W b (wayL l i j)) => keptW_any N L a l ca x y i j hr (by omega) (by omega) ⟨hc.1, by omega, hc.2.2⟩ b c W hT)
      have HCan := Lib.hid (fun W e w' (h : UniE W (keptP l (x, y) i j) e w') => h.can (keptK_v hc.2.1 _) hk1 (by omega))
      generalize canL (keptP l (x, y) i j) = Q at *
      generalize keptP l (x, y) i j = X at *
      have HLE : Hid (∀ b c W, PairsS W b Q → Below w.heap.size w W → Q.length ≤ c → LstE w Q 0 (.returned (.tuple #[.slice b Q.length c, .int .i64 0])) W) := Lib.hid fun b c W h1 h2 h3 => ⟨b, c, rfl, h1, h2, h3⟩
      clear hA hr hw he e1 e2 hc hst hk1 hk2 hk3
      go_enter Try.func10, Try.ntmps10
      go_wp2_with fail
      obtain ⟨wB, hwB⟩ : ∃ wB, ((w.alloc (.cells #[.int .i64 N, .int .i64 L, .slice a l.length ca] 24)).alloc (.cells #[.int .i64 x, .int .i64 y] 26)).alloc (.cells #[.int .i64 i, .int .i64 j] 3) = wB := ⟨_, rfl⟩
      have HB := Lib.hid (((RdBox.start w N L a l ca 24).alloc (.cells #[.int .i64 x, .int .i64 y] 26)).alloc (.cells #[.int .i64 i, .int .i64 j] 3))
      have q0 : wB.cell? ⟨w.heap.size + 1, 0, none⟩ = some (.int .i64 x) := by rw [← hwB]; simp [go_sem]
      have q1 : wB.cell? ⟨w.heap.size + 1, 1, none⟩ = some (.int .i64 y) := by rw [← hwB]; simp [go_sem]
      have pu : wB.cell? ⟨w.heap.size + 1 + 1, 0, none⟩ = some (.int .i64 i) := by rw [← hwB]; simp [go_sem]
      have pv : wB.cell? ⟨w.heap.size + 1 + 1, 1, none⟩ = some (.int .i64 j) := by rw [← hwB]; simp [go_sem]
      rw [hwB] at HB ⊢
      clear hwB
      refine (HE.out _ HB.out.1 _ pu pv).mono ?_
      rintro e w1 ⟨rfl, hb1⟩
      have q0 := cell_below q0 hb1
      have q1 := cell_below q1 hb1
      obtain ⟨hB, p0, p1, p2⟩ := HB.out.on hb1
      clear pu pv hb1 HB
      go_wp2_with fail
      have hz := block_lt p0
      have hzq := block_lt q0
      go_region_held3 (fun w' => w'.cell? ⟨w.heap.size, 0, none⟩ = some (.int .i64 N) ∧ w'.cell? ⟨w.heap.size, 1, none⟩ = some (.int .i64 L) ∧ w'.cell? ⟨w.heap.size, 2, none⟩ = some (.slice a l.length ca) ∧ w'.cell? ⟨w.heap.size + 1, 0, none⟩ = some (.int .i64 x) ∧ w'.cell? ⟨w.heap.size + 1, 1, none⟩ = some (.int .i64 y)) (go_keep)
        (first
          | (go_at_call 33
             refine (HL.out _ (by first | exact hB.drew | exact hB | exact hB.drew.drew | exact below_drewN hB _ | exact below_drewN hB.drew _)).mono ?_
             rintro E w9 ⟨rfl, hb9⟩
             have p0 := (hb9.cell (p := ⟨w.heap.size, 0, none⟩) hz).trans p0
             have p1 := (hb9.cell (p := ⟨w.heap.size, 1, none⟩) hz).trans p1
             have p2 := (hb9.cell (p := ⟨w.heap.size, 2, none⟩) hz).trans p2
             have q0 := (hb9.cell (p := ⟨w.heap.size + 1, 0, none⟩) hzq).trans q0
             have q1 := (hb9.cell (p := ⟨w.heap.size + 1, 1, none⟩) hzq).trans q1
             have hB : Below w.heap.size w w9 := by first | exact (hB.drew).trans (hb9.mono hB.size) | exact hB.trans (hb9.mono hB.size)
             have hz := Nat.lt_of_lt_of_le hz hb9.size
             have hzq := Nat.lt_of_lt_of_le hzq hb9.size)
          | (go_at_call 32
             refine (HS.out _).mono ?_
             rintro E w9 ⟨rfl, hb9⟩
             have p0 := (hb9.cell (p := ⟨w.heap.size, 0, none⟩) hz).trans p0
             have p1 := (hb9.cell (p := ⟨w.heap.size, 1, none⟩) hz).trans p1
             have p2 := (hb9.cell (p := ⟨w.heap.size, 2, none⟩) hz).trans p2
             have q0 := (hb9.cell (p := ⟨w.heap.size + 1, 0, none⟩) hzq).trans q0
             have q1 := (hb9.cell (p := ⟨w.heap.size + 1, 1, none⟩) hzq).trans q1
             have hB : Below w.heap.size w w9 := by first | exact (hB.drew).trans (hb9.mono hB.size) | exact hB.trans (hb9.mono hB.size)
             have hz := Nat.lt_of_lt_of_le hz hb9.size
             have hzq := Nat.lt_of_lt_of_le hzq hb9.size))
      go_wp2_with fail
      go_region_held3 (fun w' => w'.cell? ⟨w.heap.size, 0, none⟩ = some (.int .i64 N) ∧ w'.cell? ⟨w.heap.size, 1, none⟩ = some (.int .i64 L) ∧ w'.cell? ⟨w.heap.size, 2, none⟩ = some (.slice a l.length ca) ∧ w'.cell? ⟨w.heap.size + 1, 0, none⟩ = some (.int .i64 x) ∧ w'.cell? ⟨w.heap.size + 1, 1, none⟩ = some (.int .i64 y)) (go_keep)
        (first
          | (go_at_call 35
             refine (HSw.out _ (by first | exact hB.drew | exact hB | exact hB.drew.drew | exact below_drewN hB _ | exact below_drewN hB.drew _)).mono ?_
             rintro E w9 ⟨bw, cw, rfl, hT, hb9⟩
             have p0 := (hb9.cell (p := ⟨w.heap.size, 0, none⟩) hz).trans p0
             have p1 := (hb9.cell (p := ⟨w.heap.size, 1, none⟩) hz).trans p1
             have p2 := (hb9.cell (p := ⟨w.heap.size, 2, none⟩) hz).trans p2
             have q0 := (hb9.cell (p := ⟨w.heap.size + 1, 0, none⟩) hzq).trans q0
             have q1 := (hb9.cell (p := ⟨w.heap.size + 1, 1, none⟩) hzq).trans q1
             have hB : Below w.heap.size w w9 := by first | exact (hB.drew).trans (hb9.mono hB.size) | exact hB.trans (hb9.mono hB.size)
             have hz := Nat.lt_of_lt_of_le hz hb9.size
             have hzq := Nat.lt_of_lt_of_le hzq hb9.size)
          | (go_at_call 34
             refine (HKp.out bw cw _ (by first | exact hT | exact hT.below ((Below.refl _ _).drew) | exact hT.below (below_drewN (Below.refl _ _) _))).mono ?_
             rintro E w9 hU
             obtain ⟨bk, ck, rfl, hP, hb9, hck⟩ := HCan.out _ _ _ hU
             have p0 := (hb9.cell (p := ⟨w.heap.size, 0, none⟩) hz).trans p0
             have p1 := (hb9.cell (p := ⟨w.heap.size, 1, none⟩) hz).trans p1
             have p2 := (hb9.cell (p := ⟨w.heap.size, 2, none⟩) hz).trans p2
             have q0 := (hb9.cell (p := ⟨w.heap.size + 1, 0, none⟩) hzq).trans q0
             have q1 := (hb9.cell (p := ⟨w.heap.size + 1, 1, none⟩) hzq).trans q1
             have hB : Below w.heap.size w w9 := by first | exact (hB.drew).trans (hb9.mono hB.size) | exact hB.trans (hb9.mono hB.size)
             have hz := Nat.lt_of_lt_of_le hz hb9.size
             have hzq := Nat.lt_of_lt_of_le hzq hb9.size))
      all_goals
        go_wp2_with fail
        go_ret2
        exact HLE.out _ _ _ (by first | exact hP | exact hP.below ((Below.refl _ _).drew) | exact hP.below (below_drewN (Below.refl _ _) _)) (by first | exact hB.drew | exact hB | exact hB.drew.drew | exact below_drewN hB _ | exact below_drewN hB.drew _) hck

    · have hst := strB_f hc
      have e1 : kpE N L l x y i j = 2 := by unfold kpE; rw [if_pos he, Int.toNat_natCast, hst]; rfl
      have e2 : kpL N L l x y i j = [] := by unfold kpL; rw [e1]; rfl
      rw [e1, e2]
      rw [hst] at HS
      have HLE : Hid (∀ W, Below w.heap.size w W → LstE w [] 2 (.returned (.tuple #[.slice none 0 0, .int .i64 2])) W) := Lib.hid fun W h2 => ⟨none, 0, rfl, pairs_nil W, h2, Nat.le_refl _⟩
      clear hA hr hw he e1 e2 hc hst
      go_enter Try.func10, Try.ntmps10
      go_wp2_with fail
      obtain ⟨wB, hwB⟩ : ∃ wB, ((w.alloc (.cells #[.int .i64 N, .int .i64 L, .slice a l.length ca] 24)).alloc (.cells #[.int .i64 x, .int .i64 y] 26)).alloc (.cells #[.int .i64 i, .int .i64 j] 3) = wB := ⟨_, rfl⟩
      have HB := Lib.hid (((RdBox.start w N L a l ca 24).alloc (.cells #[.int .i64 x, .int .i64 y] 26)).alloc (.cells #[.int .i64 i, .int .i64 j] 3))
      have q0 : wB.cell? ⟨w.heap.size + 1, 0, none⟩ = some (.int .i64 x) := by rw [← hwB]; simp [go_sem]
      have q1 : wB.cell? ⟨w.heap.size + 1, 1, none⟩ = some (.int .i64 y) := by rw [← hwB]; simp [go_sem]
      have pu : wB.cell? ⟨w.heap.size + 1 + 1, 0, none⟩ = some (.int .i64 i) := by rw [← hwB]; simp [go_sem]
      have pv : wB.cell? ⟨w.heap.size + 1 + 1, 1, none⟩ = some (.int .i64 j) := by rw [← hwB]; simp [go_sem]
      rw [hwB] at HB ⊢
      clear hwB
      refine (HE.out _ HB.out.1 _ pu pv).mono ?_
      rintro e w1 ⟨rfl, hb1⟩
      have q0 := cell_below q0 hb1
      have q1 := cell_below q1 hb1
      obtain ⟨hB, p0, p1, p2⟩ := HB.out.on hb1
      clear pu pv hb1 HB
      go_wp2_with fail
      have hz := block_lt p0
      have hzq := block_lt q0
      go_region_held3 (fun w' => w'.cell? ⟨w.heap.size, 0, none⟩ = some (.int .i64 N) ∧ w'.cell? ⟨w.heap.size, 1, none⟩ = some (.int .i64 L) ∧ w'.cell? ⟨w.heap.size, 2, none⟩ = some (.slice a l.length ca) ∧ w'.cell? ⟨w.heap.size + 1, 0, none⟩ = some (.int .i64 x) ∧ w'.cell? ⟨w.heap.size + 1, 1, none⟩ = some (.int .i64 y)) (go_keep)
        (first
          | (go_at_call 33
             refine (HL.out _ (by first | exact hB.drew | exact hB | exact hB.drew.drew | exact below_drewN hB _ | exact below_drewN hB.drew _)).mono ?_
             rintro E w9 ⟨rfl, hb9⟩
             have p0 := (hb9.cell (p := ⟨w.heap.size, 0, none⟩) hz).trans p0
             have p1 := (hb9.cell (p := ⟨w.heap.size, 1, none⟩) hz).trans p1
             have p2 := (hb9.cell (p := ⟨w.heap.size, 2, none⟩) hz).trans p2
             have q0 := (hb9.cell (p := ⟨w.heap.size + 1, 0, none⟩) hzq).trans q0
             have q1 := (hb9.cell (p := ⟨w.heap.size + 1, 1, none⟩) hzq).trans q1
             have hB : Below w.heap.size w w9 := by first | exact (hB.drew).trans (hb9.mono hB.size) | exact hB.trans (hb9.mono hB.size)
             have hz := Nat.lt_of_lt_of_le hz hb9.size
             have hzq := Nat.lt_of_lt_of_le hzq hb9.size)
          | (go_at_call 32
             refine (HS.out _).mono ?_
             rintro E w9 ⟨rfl, hb9⟩
             have p0 := (hb9.cell (p := ⟨w.heap.size, 0, none⟩) hz).trans p0
             have p1 := (hb9.cell (p := ⟨w.heap.size, 1, none⟩) hz).trans p1
             have p2 := (hb9.cell (p := ⟨w.heap.size, 2, none⟩) hz).trans p2
             have q0 := (hb9.cell (p := ⟨w.heap.size + 1, 0, none⟩) hzq).trans q0
             have q1 := (hb9.cell (p := ⟨w.heap.size + 1, 1, none⟩) hzq).trans q1
             have hB : Below w.heap.size w w9 := by first | exact (hB.drew).trans (hb9.mono hB.size) | exact hB.trans (hb9.mono hB.size)
             have hz := Nat.lt_of_lt_of_le hz hb9.size
             have hzq := Nat.lt_of_lt_of_le hzq hb9.size))
      all_goals
        go_wp2_with fail
        go_ret2
        exact HLE.out _ (by first | exact hB.drew | exact hB | exact hB.drew.drew | exact below_drewN hB _ | exact below_drewN hB.drew _)

  · have e1 : kpE N L l x y u v = 60 := by unfold kpE; rw [if_neg (by rw [he]; decide), he]
    have e2 : kpL N L l x y u v = [] := by unfold kpL; rw [e1]; rfl
    rw [he] at HE
    rw [e1, e2]
    have HLE : Hid (∀ W, Below w.heap.size w W → LstE w [] 60 (.returned (.tuple #[.slice none 0 0, .int .i64 60])) W) := Lib.hid fun W h2 => ⟨none, 0, rfl, pairs_nil W, h2, Nat.le_refl _⟩
    clear hA he e1 e2
    go_enter Try.func10, Try.ntmps10
    go_wp2_with fail
    obtain ⟨wB, hwB⟩ : ∃ wB, ((w.alloc (.cells #[.int .i64 N, .int .i64 L, .slice a l.length ca] 24)).alloc (.cells #[.int .i64 x, .int .i64 y] 26)).alloc (.cells #[.int .i64 u, .int .i64 v] 3) = wB := ⟨_, rfl⟩
    have HB := Lib.hid (((RdBox.start w N L a l ca 24).alloc (.cells #[.int .i64 x, .int .i64 y] 26)).alloc (.cells #[.int .i64 u, .int .i64 v] 3))
    have q0 : wB.cell? ⟨w.heap.size + 1, 0, none⟩ = some (.int .i64 x) := by rw [← hwB]; simp [go_sem]
    have q1 : wB.cell? ⟨w.heap.size + 1, 1, none⟩ = some (.int .i64 y) := by rw [← hwB]; simp [go_sem]
    have pu : wB.cell? ⟨w.heap.size + 1 + 1, 0, none⟩ = some (.int .i64 u) := by rw [← hwB]; simp [go_sem]
    have pv : wB.cell? ⟨w.heap.size + 1 + 1, 1, none⟩ = some (.int .i64 v) := by rw [← hwB]; simp [go_sem]
    rw [hwB] at HB ⊢
    clear hwB
    refine (HE.out _ HB.out.1 _ pu pv).mono ?_
    rintro e w1 ⟨rfl, hb1⟩
    have q0 := cell_below q0 hb1
    have q1 := cell_below q1 hb1
    obtain ⟨hB, p0, p1, p2⟩ := HB.out.on hb1
    clear pu pv hb1 HB
    go_wp2_with fail
    go_ret2
    exact HLE.out _ hB

  · have e1 : kpE N L l x y u v = 61 := by unfold kpE; rw [if_neg (by rw [he]; decide), he]
    have e2 : kpL N L l x y u v = [] := by unfold kpL; rw [e1]; rfl
    rw [he] at HE
    rw [e1, e2]
    have HLE : Hid (∀ W, Below w.heap.size w W → LstE w [] 61 (.returned (.tuple #[.slice none 0 0, .int .i64 61])) W) := Lib.hid fun W h2 => ⟨none, 0, rfl, pairs_nil W, h2, Nat.le_refl _⟩
    clear hA he e1 e2
    go_enter Try.func10, Try.ntmps10
    go_wp2_with fail
    obtain ⟨wB, hwB⟩ : ∃ wB, ((w.alloc (.cells #[.int .i64 N, .int .i64 L, .slice a l.length ca] 24)).alloc (.cells #[.int .i64 x, .int .i64 y] 26)).alloc (.cells #[.int .i64 u, .int .i64 v] 3) = wB := ⟨_, rfl⟩
    have HB := Lib.hid (((RdBox.start w N L a l ca 24).alloc (.cells #[.int .i64 x, .int .i64 y] 26)).alloc (.cells #[.int .i64 u, .int .i64 v] 3))
    have q0 : wB.cell? ⟨w.heap.size + 1, 0, none⟩ = some (.int .i64 x) := by rw [← hwB]; simp [go_sem]
    have q1 : wB.cell? ⟨w.heap.size + 1, 1, none⟩ = some (.int .i64 y) := by rw [← hwB]; simp [go_sem]
    have pu : wB.cell? ⟨w.heap.size + 1 + 1, 0, none⟩ = some (.int .i64 u) := by rw [← hwB]; simp [go_sem]
    have pv : wB.cell? ⟨w.heap.size + 1 + 1, 1, none⟩ = some (.int .i64 v) := by rw [← hwB]; simp [go_sem]
    rw [hwB] at HB ⊢
    clear hwB
    refine (HE.out _ HB.out.1 _ pu pv).mono ?_
    rintro e w1 ⟨rfl, hb1⟩
    have q0 := cell_below q0 hb1
    have q1 := cell_below q1 hb1
    obtain ⟨hB, p0, p1, p2⟩ := HB.out.on hb1
    clear pu pv hb1 HB
    go_wp2_with fail
    go_ret2
    exact HLE.out _ hB

end Go.Proofs.Ytdiabpcpcilclaa
