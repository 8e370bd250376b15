/-
  slices.SortFunc at placed steps; inOrder. By an AI agent.; Order of package shop. By an AI agent.; append of nothing at a step of a region that draws its order. By an AI agent.; The reference's Order of package shop. By an AI agent.
-/
import Derived.Test.YtgphkfonjfdifaaMgShopOrders7
import Derived.Test.YtgphkfonjfdifaaMgShopOrders10
import Derived.Deep.RegionHeld3
import Derived.BigRegion
import Derived.BigQuiet
import Derived.Shelf.SlSortCmp.NoneTotal
import Derived.Lib.OwnBridge
import Derived.Deep.AppendLies
import Derived.Laws.AppendOwnNone
import Derived.Deep.RegionLawGrows
import Derived.Deep.DeepCutAuto

namespace Go.Proofs.Ytgphkfonjfdifaa
set_option linter.unusedVariables false
set_option linter.unusedSimpArgs false
open Go.RowKit

def encQ (x : Plc) : List Value := [.int .i64 x.m, .int .i64 x.mi, .int .i64 x.c, .int .i64 x.d, .int .i64 x.j, .int .i64 x.n, .int .i64 x.st]
theorem encQ_len (x : Plc) : (encQ x).length = 7 := rfl
theorem encQ_one (x : Plc) : ∀ v ∈ encQ x, v.oneCell' = true := by
  intro v hv
  simp [encQ] at hv
  rcases hv with rfl | rfl | rfl | rfl | rfl | rfl | rfl <;> rfl
instance : Inhabited Plc := ⟨⟨0, 0, 0, 0, 0, 0, 0⟩⟩
def clQ (l : List Plc) : List Value := l.flatMap encQ
theorem clQ_get : ∀ (l : List Plc) (j : Nat), j < l.length * 7 → (clQ l)[j]? = some ((encQ l[j / 7]!)[j % 7]!)
  | [], j, h => by simp at h
  | p :: l, j, h => by
    unfold clQ
    rw [List.flatMap_cons]
    by_cases h1 : j < 7
    · rw [List.getElem?_append_left (by rw [encQ_len]; exact h1), show j / 7 = 0 by omega, show j % 7 = j by omega]
      have hl : j < (encQ p).length := h1
      rw [List.getElem?_eq_getElem hl, getElem!_pos _ j hl]
      rfl
    · have ih := clQ_get l (j - 7) (by simp at h; omega)
      unfold clQ at ih
      rw [List.getElem?_append_right (by rw [encQ_len]; omega), encQ_len, ih, show j / 7 = (j - 7) / 7 + 1 by omega, show j % 7 = (j - 7) % 7 by omega]
      rfl
theorem pcs_clQ (s : Sh) (P : List (List Int)) : pcs s P (flP s.J) = clQ (plcL s P) := by
  unfold pcs clQ plcL
  rw [List.flatMap_map]
  rfl
theorem holdsQ {w : World} {base g c : Nat} {l : List Plc} (h : w.ownsRow base 67 7 (.slice (some ⟨g, 0, none⟩) l.length c) l.length (clQ l)) : Sort.HoldsK encQ 7 w g 0 l.toArray := by
  intro j hj
  rw [Sort.size_flatK] at hj
  have hj2 : j < l.length * 7 := by simpa using hj
  rw [Sort.get_flatK _ _ _ _ hj, Nat.zero_add, World.ownsRow.cellAt h j (by omega), clQ_get l j hj2]
  refine ⟨?_, World.ownsRow.frozenAt h j⟩
  have hd : j / 7 < l.length := by omega
  have e : l.toArray[j / 7]! = l[j / 7]! := by rw [getElem!_pos _ (j / 7) (by simpa using hd), getElem!_pos _ (j / 7) hd]; simp
  rw [e]; rfl
theorem plcS_holds {w : World} {g : Nat} {d : Array Plc} (h : Sort.HoldsK encQ 7 w g 0 d) (hn : d.size ≤ 1000000) : PlcS w (some ⟨g, 0, none⟩) d.toList := by
  refine ⟨by simp; omega, g, 0, fun _ => rfl, fun i hi => ?_⟩
  have hi : i < d.size := by simpa using hi
  have key : ∀ k, k < 7 → w.cell? ⟨g, 0 + i * 7 + k, none⟩ = some ((encQ (gc d.toList i))[k]!) := fun k hk => by
    have hj2 : i * 7 + k < d.size * 7 := by omega
    have hj : i * 7 + k < (Sort.flatK encQ 7 d).size := by rw [Sort.size_flatK]; exact hj2
    have := (h (i * 7 + k) hj).1
    rw [Sort.get_flatK _ _ _ _ hj2, show (i * 7 + k) / 7 = i by omega, show (i * 7 + k) % 7 = k by omega] at this
    rw [show 0 + i * 7 + k = 0 + (i * 7 + k) by omega, this, gc_at d.toList (by simpa using hi), getElem!_pos d i hi]
    rfl
  exact ⟨key 0 (by decide), key 1 (by decide), key 2 (by decide), key 3 (by decide), key 4 (by decide), key 5 (by decide), key 6 (by decide)⟩
theorem cmpI_lt (a b : Int) : Lib.compareInt a b < 0 ↔ a < b := by
  unfold Lib.compareInt; split
  · simp_all
  · split <;> simp_all
theorem cmpI_eq (a b : Int) : Lib.compareInt a b = 0 ↔ a = b := by
  unfold Lib.compareInt; split
  · simp; omega
  · split <;> (simp; omega)
/-- Comes p ahead of q? -/
def ahdQ (p q : Plc) : Prop := p.st < q.st ∨ (p.st = q.st ∧ (p.j < q.j ∨ (p.j = q.j ∧ p.n < q.n)))
theorem cmpQ_lt (p q : Plc) : cmpQ p q < 0 ↔ ahdQ p q := by
  unfold cmpQ or3V ahdQ
  have a0 := cmpI_lt p.st q.st
  have a1 := cmpI_eq p.st q.st
  have b0 := cmpI_lt p.j q.j
  have b1 := cmpI_eq p.j q.j
  have c0 := cmpI_lt p.n q.n
  generalize Lib.compareInt p.st q.st = A at *
  generalize Lib.compareInt p.j q.j = B at *
  generalize Lib.compareInt p.n q.n = C at *
  by_cases hA : A = 0
  · rw [if_neg (by simp [hA])]
    by_cases hB : B = 0
    · rw [if_neg (by simp [hB]), c0]; have := a1.1 hA; have := b1.1 hB; omega
    · rw [if_pos hB, b0]; have := a1.1 hA; have := mt b1.2 hB; omega
  · rw [if_pos hA, a0]; have := mt a1.2 hA; omega
theorem ltQ (x y : Plc) : ltOf cmpQ x y = decide (cmpQ x y < 0) := rfl
theorem swoQ : Sort.SWO (ltOf cmpQ) where
  irrefl x := by rw [ltQ, decide_eq_false_iff_not, cmpQ_lt]; unfold ahdQ; omega
  trans x y z h1 h2 := by rw [ltQ, decide_eq_true_eq, cmpQ_lt] at *; unfold ahdQ at *; omega
  ntrans x y z h1 h2 := by rw [ltQ, decide_eq_false_iff_not, cmpQ_lt] at *; unfold ahdQ at *; omega
/-- slices.SortFunc at placed steps. -/
theorem sortQ_r (base g c : Nat) (l : List Plc) (w : World) (h : w.ownsRow base 67 7 (.slice (some ⟨g, 0, none⟩) l.length c) l.length (clQ l)) (hn : l.length ≤ 100000) :
    Calls Try.prog 79 #[.slice (some ⟨g, 0, none⟩) l.length c, .func (.func 59) #[] #[]] w fun e w' => e = .returned (.tuple #[]) ∧ ∃ d : Array Plc, d.toList.Perm l ∧ d.size = l.length ∧ (∀ i j, i < j → j < d.size → ¬ ahdQ d[j]! d[i]!) ∧ Sort.HoldsK encQ 7 w' g 0 d ∧ Below base w w' := by
  have eg : ∀ args w, (callFunc 59 args).run Try.prog w = .ok (.enter 59 args) w := enters_of Try.func59 (by kernel_rfl) rfl
  obtain ⟨hg1, hg2⟩ : base ≤ g ∧ g < w.heap.size := by
    rcases h.2 with ⟨h1, h2⟩ | ⟨g2, c2, cur, h1, h2, h3, h4⟩
    · cases h1
    · have e : g = g2 := by simpa using (Value.slice.inj h1).1
      subst e
      exact ⟨h2, (Array.getElem?_eq_some_iff.1 h3).1⟩
  have hcmp : CmpLays Try.prog 59 #[] encQ 7 cmpQ g 0 l.toArray.size w := fun m os dk _ x y => compare_pl x y _
  have hcon := AnyQ.slices_SortFunc Try.laysSortQ 7 Try.isAgg67 Try.sizeOf67 encQ encQ_len encQ_one cmpQ swoQ 59 #[] g 0 c l.toArray w eg hcmp (holdsQ h) hg2 (by simp; omega)
  change Calls Try.prog 79 _ _ _ at hcon
  rw [show l.toArray.size = l.length by simp] at hcon
  refine hcon.mono ?_
  rintro e w' ⟨he, d', n, os, ⟨hs, -, hp⟩, hso, rfl⟩
  have hs2 : d'.size = l.length := by simpa using hs
  refine ⟨he, d', ?_, hs2, ?_, holdsK_sortWorldK encQ 7 w g 0 n l.toArray d' os hg2 (holdsQ h) hs, ?_⟩
  · have e1 : (d'.extract 0 l.length).toList = d'.toList := by rw [← hs2]; simp
    have e2 : (l.toArray.extract 0 l.length).toList = l := by simp
    rw [e1, e2] at hp
    exact hp
  · intro i j hij hj
    have := hso i j (Nat.zero_le _) hij (by omega)
    rw [ltQ, decide_eq_false_iff_not, cmpQ_lt] at this
    exact this
  · have b1 : Below base w (Sort.putRowK encQ 7 (Sort.ahead w n) g 0 d') := Lib.below_putRow (Below.refl _ _) hg1
    exact b1.trans (by
      have := Lib.below_grow base (Sort.putRowK encQ 7 (Sort.ahead w n) g 0 d') (by have := b1.size; omega) 0 os
      exact this)
theorem sortQNil_r (c : Nat) (fv : Value) (w : World) : Calls Try.prog 79 #[.slice none 0 c, fv] w fun e w' => e = .returned (.tuple #[]) ∧ w' = w := by
  have := AnyF.slices_SortFunc_none Try.laysSortQ none c fv w
  change Calls Try.prog 79 _ _ _ at this
  exact this
/-- In order. -/
def SrtQ (l : List Plc) : Prop := l.Pairwise fun p q => ¬ ahdQ q p
/-- Placed steps in order. -/
def InOr (s : Sh) (P : List (List Int)) (w : World) (e : Ending) (w' : World) : Prop := ∃ (a : Option Addr) (c : Nat) (L : List Plc), e = .returned (.slice a L.length c) ∧ L.Perm (plcL s P) ∧ SrtQ L ∧ PlcS w' a L ∧ Below w.heap.size w w'
set_option maxRecDepth 100000 in
set_option maxHeartbeats 2000000 in
theorem inOrder_r (s : Sh) (ap : Option Addr) (P : List (List Int)) (cp : Nat) (w : World) (hI : ShS w s) (hV : ShOk s) (hP : RowsS w ap P) (hO : PlanOk s P) :
    Calls Try.prog 54 #[.agg #[.int .i64 s.O, .int .i64 s.C, .slice s.aH s.H.length s.cH, .int .i64 s.M, .slice s.aS s.S.length s.cS, .slice s.aJ s.J.length s.cJ], .slice ap P.length cp] w (InOr s P w) := by
  have HA := Lib.hid (fun W (hW : Below w.heap.size w W) => allPlaced_own s ap P cp W (hI.below hW) hV (hP.below hW) hO)
  have hfl : (flP s.J).length ≤ 200 := by have := flI_len hV s.J.length (Nat.le_refl _); have := hV.2.2.2.1; unfold flP; omega
  have hfl2 : (flP s.J).length = (plcL s P).length := (plcL_len s P).symm
  rw [pcs_clQ, hfl2] at HA
  rw [hfl2] at hfl
  clear hI hV hP hO hfl2
  unfold InOr
  generalize plcL s P = l at *
  have HB := Lib.hid (ShBox.start w s 25)
  go_enter Try.func54, Try.ntmps54
  go_wp2_with fail
  obtain ⟨wB, hwB⟩ : ∃ wB, w.alloc (.cells #[.int .i64 s.O, .int .i64 s.C, .slice s.aH s.H.length s.cH, .int .i64 s.M, .slice s.aS s.S.length s.cS, .slice s.aJ s.J.length s.cJ] 25) = wB := ⟨_, rfl⟩
  rw [hwB] at HB ⊢
  clear hwB
  obtain ⟨hb, p0, p1, p2, p3, p4, p5⟩ := HB.out
  clear HB
  go_wp2_with (go_at_call 37; refine (HA.out _ hb).mono ?_; rintro e w1 ⟨a, c, rfl, hown, hb1⟩)
  have HOw := Lib.hid hown
  have HB1 := Lib.hid (hb.trans (hb1.mono hb.size))
  rcases hown.2 with ⟨h1, h2⟩ | ⟨g, c2, cur, h1, hg1, hg2, hg3⟩
  · obtain ⟨rfl, h3, rfl⟩ : a = none ∧ l.length = 0 ∧ c = 0 := by simpa using h1
    have h4 := List.eq_nil_of_length_eq_zero h2
    subst h4
    clear hown h1 h2 h3 HOw hb hb1 p0 p1 p2 p3 p4 p5
    go_wp2_with (go_at_call 79; refine (sortQNil_r _ _ _).mono ?_; rintro e w2 ⟨rfl, rfl⟩)
    go_ret
    exact ⟨none, 0, [], rfl, List.Perm.refl _, List.Pairwise.nil, plcS_nil _ _, HB1.out⟩
  · obtain ⟨rfl, rfl⟩ : a = some ⟨g, 0, none⟩ ∧ c = c2 := by simpa using h1
    have hbs := hb.size
    clear hown h1 hg2 hg3 hb hb1 p0 p1 p2 p3 p4 p5
    go_wp2_with (go_at_call 79; refine (sortQ_r _ g c l _ HOw.out (by omega)).mono ?_; rintro e w2 ⟨rfl, d, hd1, hd2, hd3, hd4, hb2⟩; have HD2 := Lib.hid hd2; have HD3 := Lib.hid hd3; have HD4 := Lib.hid hd4; clear hd2 hd3 hd4)
    go_ret
    refine ⟨some ⟨g, 0, none⟩, c, d.toList, by rw [show d.toList.length = l.length by have := HD2.out; simpa using this] <;> rfl, hd1, ?_, plcS_holds HD4.out (by have := HD2.out; omega), HB1.out.trans (hb2.mono hbs)⟩
    unfold SrtQ
    rw [List.pairwise_iff_getElem]
    intro i j hi hj hij
    have hi : i < d.size := by simpa using hi
    have hj : j < d.size := by simpa using hj
    have := HD3.out i j hij hj
    rw [getElem!_pos d i hi, getElem!_pos d j hj] at this
    simpa using this
end Go.Proofs.Ytgphkfonjfdifaa

namespace Go.Proofs.Ytgphkfonjfdifaa
set_option linter.unusedVariables false
set_option linter.unusedSimpArgs false
open Go.RowKit

/-- The steps of a machine among the first k ones of a list, as pairs. -/
def ordK (m : Int) (L : List Plc) : Nat → List (Int × Int)
  | 0 => []
  | k + 1 => if (gc L k).m = m then ordK m L k ++ [((gc L k).j, (gc L k).n)] else ordK m L k
def ordV (m : Int) (L : List Plc) : List (Int × Int) := ordK m L L.length
theorem ordK_len (m : Int) (L : List Plc) : ∀ k, (ordK m L k).length ≤ k
  | 0 => by simp [ordK]
  | k + 1 => by
    have := ordK_len m L k
    rw [ordK]; split
    · rw [List.length_append]; simp; omega
    · omega
theorem ordK_mem {m : Int} {L : List Plc} {p : Int × Int} : ∀ {k}, k ≤ L.length → p ∈ ordK m L k → ∃ x, x ∈ L ∧ x.m = m ∧ p = (x.j, x.n)
  | 0, _, h => by cases h
  | k + 1, hk, h => by
    rw [ordK] at h
    have hx : gc L k ∈ L := by rw [gc_at L (by omega)]; exact List.getElem_mem _
    split at h
    · rw [List.mem_append, List.mem_singleton] at h
      rcases h with h | h
      · exact ordK_mem (by omega) h
      · exact ⟨gc L k, hx, by assumption, h⟩
    · exact ordK_mem (by omega) h
theorem plcL_mem {s : Sh} {P : List (List Int)} {x : Plc} (h : x ∈ plcL s P) : ∃ a b : Nat, x.j = a ∧ x.n = b ∧ a < s.J.length ∧ b < (gj s.J a).length := by
  unfold plcL at h
  obtain ⟨p, hp, rfl⟩ := List.mem_map.1 h
  obtain ⟨a, b, rfl, ha, hb⟩ := flI_at _ (Nat.le_refl _) p hp
  exact ⟨a, b, rfl, rfl, ha, hb⟩
/-- What Order returns for a right plan. -/
def OrdG (s : Sh) (P : List (List Int)) (m : Int) (w : World) (e : Ending) (w' : World) : Prop := ∃ (a : Option Addr) (c : Nat) (Q : List Plc), e = .returned (.tuple #[.slice a (ordV m Q).length c, .int .i64 0]) ∧ Q.Perm (plcL s P) ∧ SrtQ Q ∧ PairsS w' a (ordV m Q) ∧ Below w.heap.size w w'
set_option maxRecDepth 100000 in
set_option maxHeartbeats 2000000 in
theorem ordr_arg (s : Sh) (ap : Option Addr) (P : List (List Int)) (cp : Nat) (m : Int) (w : World) (hI : ShS w s) (hV : ShOk s) (hP : RowsS w ap P) (h : ¬ (0 ≤ m ∧ m < s.M)) :
    Calls Try.prog 18 #[.agg #[.int .i64 s.O, .int .i64 s.C, .slice s.aH s.H.length s.cH, .int .i64 s.M, .slice s.aS s.S.length s.cS, .slice s.aJ s.J.length s.cJ], .slice ap P.length cp, .int .i64 m] w fun e w' => e = .returned (.tuple #[.slice none 0 0, .int .i64 2]) ∧ Below w.heap.size w w' := by
  have HV := Lib.hid (fun W (hW : Below w.heap.size w W) => Valid_sh s W (hI.below hW))
  rw [shB_t hV] at HV
  have hM := hV.2.2.1.1
  have HB1 := Lib.hid (btw_f (n := m) (a := 0) (b := s.M - 1) (fun g => h ⟨g.1, by omega⟩))
  have HB := Lib.hid (ShBox.start w s 25)
  clear hI hV hP h
  go_enter Try.func18, Try.ntmps18
  go_wp2_with fail
  obtain ⟨wB, hwB⟩ : ∃ wB, w.alloc (.cells #[.int .i64 s.O, .int .i64 s.C, .slice s.aH s.H.length s.cH, .int .i64 s.M, .slice s.aS s.S.length s.cS, .slice s.aJ s.J.length s.cJ] 25) = wB := ⟨_, rfl⟩
  rw [hwB] at HB ⊢
  clear hwB
  obtain ⟨hb, p0, p1, p2, p3, p4, p5⟩ := HB.out
  clear HB
  go_wp2_with (first | (go_at_call 35; refine (HV.out _ hb).mono ?_; rintro e w1 ⟨rfl, hb1⟩; replace hb := hb.trans (hb1.mono hb.size); replace p0 := cell_below p0 hb1; replace p1 := cell_below p1 hb1; replace p2 := cell_below p2 hb1; replace p3 := cell_below p3 hb1; replace p4 := cell_below p4 hb1; replace p5 := cell_below p5 hb1; clear hb1) | (go_at_call 53; refine (sbt_any _ _ _ _).mono ?_; rintro e w8 ⟨rfl, rfl⟩; rw [HB1.out]))
  go_ret2
  exact ⟨rfl, hb⟩
set_option maxRecDepth 100000 in
set_option maxHeartbeats 2000000 in
theorem ordr_bad (s : Sh) (ap : Option Addr) (P : List (List Int)) (cp : Nat) (m : Int) (w : World) (hI : ShS w s) (hV : ShOk s) (hP : RowsS w ap P) (h : 0 ≤ m ∧ m < s.M) (hE : ¬ (judV s P).2.2 = 0) :
    Calls Try.prog 18 #[.agg #[.int .i64 s.O, .int .i64 s.C, .slice s.aH s.H.length s.cH, .int .i64 s.M, .slice s.aS s.S.length s.cS, .slice s.aJ s.J.length s.cJ], .slice ap P.length cp, .int .i64 m] w fun e w' => e = .returned (.tuple #[.slice none 0 0, .int .i64 (judV s P).2.2]) ∧ Below w.heap.size w w' := by
  have HV := Lib.hid (fun W (hW : Below w.heap.size w W) => Valid_sh s W (hI.below hW))
  rw [shB_t hV] at HV
  have hM := hV.2.2.1.1
  have HB1 := Lib.hid (btw_t h.1 (show m ≤ s.M - 1 by omega))
  have HJ := Lib.hid (fun W (hW : Below w.heap.size w W) => judge_any s ap P cp W (hI.below hW) hV (hP.below hW))
  have HB := Lib.hid (ShBox.start w s 25)
  clear hI hV hP h
  obtain ⟨J3, hJ3⟩ : ∃ J3, judV s P = J3 := ⟨_, rfl⟩
  rw [hJ3] at HJ hE ⊢
  clear hJ3
  obtain ⟨j1, j2, j3⟩ := J3
  have hE : ¬ j3 = 0 := hE
  have d1 : (j3 != 0) = true := by simpa using hE
  clear hE
  go_enter Try.func18, Try.ntmps18
  go_wp2_with fail
  obtain ⟨wB, hwB⟩ : ∃ wB, w.alloc (.cells #[.int .i64 s.O, .int .i64 s.C, .slice s.aH s.H.length s.cH, .int .i64 s.M, .slice s.aS s.S.length s.cS, .slice s.aJ s.J.length s.cJ] 25) = wB := ⟨_, rfl⟩
  rw [hwB] at HB ⊢
  clear hwB
  obtain ⟨hb, p0, p1, p2, p3, p4, p5⟩ := HB.out
  clear HB
  go_wp2_with (first | (go_at_call 35; refine (HV.out _ hb).mono ?_; rintro e w1 ⟨rfl, hb1⟩; replace hb := hb.trans (hb1.mono hb.size); replace p0 := cell_below p0 hb1; replace p1 := cell_below p1 hb1; replace p2 := cell_below p2 hb1; replace p3 := cell_below p3 hb1; replace p4 := cell_below p4 hb1; replace p5 := cell_below p5 hb1; clear hb1) | (go_at_call 53; refine (sbt_any _ _ _ _).mono ?_; rintro e w8 ⟨rfl, rfl⟩; rw [HB1.out]) | (go_at_call 15; refine (HJ.out _ hb).mono ?_; rintro e w1 ⟨rfl, hb1⟩; replace hb := hb.trans (hb1.mono hb.size); replace p0 := cell_below p0 hb1; replace p1 := cell_below p1 hb1; replace p2 := cell_below p2 hb1; replace p3 := cell_below p3 hb1; replace p4 := cell_below p4 hb1; replace p5 := cell_below p5 hb1; clear hb1))
  go_ret2
  exact ⟨rfl, hb⟩
set_option maxRecDepth 100000 in
set_option maxHeartbeats 4000000 in
theorem ordr_good (s : Sh) (ap : Option Addr) (P : List (List Int)) (cp : Nat) (m : Int) (w : World) (hI : ShS w s) (hV : ShOk s) (hP : RowsS w ap P) (h : 0 ≤ m ∧ m < s.M) (hE : (judV s P).2.2 = 0) :
    Calls Try.prog 18 #[.agg #[.int .i64 s.O, .int .i64 s.C, .slice s.aH s.H.length s.cH, .int .i64 s.M, .slice s.aS s.S.length s.cS, .slice s.aJ s.J.length s.cJ], .slice ap P.length cp, .int .i64 m] w (OrdG s P m w) := by
  have HV := Lib.hid (fun W (hW : Below w.heap.size w W) => Valid_sh s W (hI.below hW))
  rw [shB_t hV] at HV
  have hM := hV.2.2.1.1
  have HB1 := Lib.hid (btw_t h.1 (show m ≤ s.M - 1 by omega))
  have hO := judV_plan hE
  have HJ := Lib.hid (fun W (hW : Below w.heap.size w W) => judge_any s ap P cp W (hI.below hW) hV (hP.below hW))
  have HA : Hid (∀ W, Below w.heap.size w W → Calls Try.prog 54 #[.agg #[.int .i64 s.O, .int .i64 s.C, .slice s.aH s.H.length s.cH, .int .i64 s.M, .slice s.aS s.S.length s.cS, .slice s.aJ s.J.length s.cJ], .slice ap P.length cp] W (InOr s P W)) := Lib.hid (fun W (hW : Below w.heap.size w W) => inOrder_r s ap P cp W (hI.below hW) hV (hP.below hW) hO)
  have h200 : (plcL s P).length ≤ 200 := by have := flI_len hV s.J.length (Nat.le_refl _); have := hV.2.2.2.1; rw [plcL_len]; unfold flP; omega
  have HI9 : Hid (∀ x, x ∈ plcL s P → (0 ≤ x.j ∧ x.j ≤ 12) ∧ 0 ≤ x.n ∧ x.n ≤ 8) := Lib.hid fun x hx => by
    obtain ⟨a, b, h1, h2, h3, h4⟩ := plcL_mem hx
    have := (hV.2.2.2.2 a h3).1
    have := hV.2.2.2.1
    omega
  have HB := Lib.hid (ShBox.start w s 25)
  obtain ⟨n0, hi, hz0, hz1, hz2⟩ := info_parts pairInfo
  clear hI hV hP h hO
  obtain ⟨J3, hJ3⟩ : ∃ J3, judV s P = J3 := ⟨_, rfl⟩
  rw [hJ3] at HJ hE
  clear hJ3
  obtain ⟨j1, j2, j3⟩ := J3
  have hE : j3 = 0 := hE
  subst hE
  unfold OrdG ordV
  go_enter Try.func18, Try.ntmps18
  go_wp2_with fail
  obtain ⟨wB, hwB⟩ : ∃ wB, w.alloc (.cells #[.int .i64 s.O, .int .i64 s.C, .slice s.aH s.H.length s.cH, .int .i64 s.M, .slice s.aS s.S.length s.cS, .slice s.aJ s.J.length s.cJ] 25) = wB := ⟨_, rfl⟩
  rw [hwB] at HB ⊢
  clear hwB
  obtain ⟨hb, p0, p1, p2, p3, p4, p5⟩ := HB.out
  clear HB
  go_wp2_with (first | (go_at_call 35; refine (HV.out _ hb).mono ?_; rintro e w1 ⟨rfl, hb1⟩; replace hb := hb.trans (hb1.mono hb.size); replace p0 := cell_below p0 hb1; replace p1 := cell_below p1 hb1; replace p2 := cell_below p2 hb1; replace p3 := cell_below p3 hb1; replace p4 := cell_below p4 hb1; replace p5 := cell_below p5 hb1; clear hb1) | (go_at_call 53; refine (sbt_any _ _ _ _).mono ?_; rintro e w8 ⟨rfl, rfl⟩; rw [HB1.out]) | (go_at_call 15; refine (HJ.out _ hb).mono ?_; rintro e w1 ⟨rfl, hb1⟩; replace hb := hb.trans (hb1.mono hb.size); replace p0 := cell_below p0 hb1; replace p1 := cell_below p1 hb1; replace p2 := cell_below p2 hb1; replace p3 := cell_below p3 hb1; replace p4 := cell_below p4 hb1; replace p5 := cell_below p5 hb1; clear hb1) | (go_at_call 54; refine (HA.out _ hb).mono ?_; rintro e w1 ⟨a, c, L, rfl, hPm, hSr, hPS, hb1⟩; replace hb := hb.trans (hb1.mono hb.size); replace p0 := cell_below p0 hb1; replace p1 := cell_below p1 hb1; replace p2 := cell_below p2 hb1; replace p3 := cell_below p3 hb1; replace p4 := cell_below p4 hb1; replace p5 := cell_below p5 hb1; clear hb1; have HPm := Lib.hid hPm; have HSr := Lib.hid hSr; have HPL := Lib.hid hPS; clear hPm hSr hPS))
  obtain ⟨wL, rfl⟩ : ∃ wL : World, wL = w1 := ⟨_, rfl⟩
  obtain ⟨hl9, blk, off, hadr, hc⟩ := HPL.out
  have HC := Lib.hid hc
  have hLl : L.length ≤ 200 := by rw [HPm.out.length_eq]; exact h200
  have HLa : Hid (0 < L.length → a = some ⟨blk, off, none⟩) := Lib.hid fun h => hadr (List.ne_nil_of_length_pos h)
  have HBL := Lib.hid hb
  have HLn := Lib.hid (ordK_len m L)
  have HNx : Hid (∀ k, ordK m L (k + 1) = if (gc L k).m = m then ordK m L k ++ [((gc L k).j, (gc L k).n)] else ordK m L k) := Lib.hid fun k => rfl
  have HRS : Hid (∀ W a c base, W.ownsRow base 76 2 (.slice a (ordK m L L.length).length c) (ordK m L L.length).length (clS (ordK m L L.length)) → PairsS W a (ordK m L L.length)) := Lib.hid fun W a c base h => pairs_own h (by have := ordK_len m L L.length; omega) (fun j hj => by
    obtain ⟨x, hx, -, e⟩ := ordK_mem (Nat.le_refl _) (gp_mem hj)
    have := HI9.out x (HPm.out.mem_iff.1 hx)
    rw [e]
    unfold I64
    exact ⟨⟨by simp only; omega, by simp only; omega⟩, ⟨by simp only; omega, by simp only; omega⟩⟩)

  clear hc hadr HPL HJ HA HV HI9 HB1 hb p0 p1 p2 p3 p4 p5 h200
  go_loopw [11, 37] (fun v i wr => ∃ k : Nat, k ≤ L.length ∧ i = .int .i64 k ∧ (∃ a c, v = .slice a (ordK m L k).length c) ∧ Hid (wr.ownsRow wL.heap.size 76 2 v (ordK m L k).length (clS (ordK m L k))) ∧ Below wL.heap.size wL wr) (fun _ i _ => L.length - (intOf i).toNat)
  case atStart => exact ⟨0, Nat.zero_le _, rfl, ⟨none, 0, rfl⟩, Lib.hid ⟨rfl, .inl ⟨rfl, rfl⟩⟩, Below.refl _ _⟩
  case round =>
    obtain ⟨k, hk, rfl, ⟨av, cv, rfl⟩, HRow, hbr⟩ := hrel
    by_cases hlt : k < L.length
    · obtain rfl := HLa.out (by omega)
      obtain ⟨c0, c1, c2, c3, c4, c5, c6⟩ := HC.out k hlt
      have c0 := cell_below c0 hbr
      have c1 := cell_below c1 hbr
      have c2 := cell_below c2 hbr
      have c3 := cell_below c3 hbr
      have c4 := cell_below c4 hbr
      have c5 := cell_below c5 hbr
      have c6 := cell_below c6 hbr
      have hkI : (k : Int) < L.length := by omega
      have HNk := Lib.hid (HNx.out k)
      have hlk := HLn.out k
      clear HC HLa HNx HLn HRS
      generalize gc L k = x at *
      obtain ⟨x0, x1, x2, x3, x4, x5, x6⟩ := x
      simp only at HNk c0 c1 c2 c3 c4 c5 c6
      generalize ordK m L k = O at *
      by_cases hm : x0 = m
      · have d1 : (x0 == m) = true := by simpa using hm
        have HAP : Hid (O.length + 1 = (ordK m L (k + 1)).length ∧ clS O ++ [.int .i64 x4, .int .i64 x5] = clS (ordK m L (k + 1))) := Lib.hid (by rw [HNk.out, if_pos hm, clS_app, List.length_append]; exact ⟨rfl, rfl⟩)
        clear HNk hm
        generalize O.length = ln at *
        generalize clS O = cs at *
        go_upto_region 13 with fail
        have hbs := hbr.size
        obtain ⟨wz, hwz⟩ : ∃ wz, wr.alloc (.cells #[.int .i64 x0, .int .i64 x1, .int .i64 x2, .int .i64 x3, .int .i64 x4, .int .i64 x5, .int .i64 x6] 67) = wz := ⟨_, rfl⟩
        have hbz : Below wL.heap.size wL wz := by rw [← hwz]; exact hbr.alloc hbs _
        have HOW := Lib.hid ((HRow.out.alloc (.cells #[.int .i64 x0, .int .i64 x1, .int .i64 x2, .int .i64 x3, .int .i64 x4, .int .i64 x5, .int .i64 x6] 67)).alloc (.cells #[.int .i64 x4, .int .i64 x5] 76))
        have g4 : wz.cell? ⟨wr.heap.size, 4, none⟩ = some (.int .i64 x4) := by rw [← hwz]; simp [go_sem]
        have g5 : wz.cell? ⟨wr.heap.size, 5, none⟩ = some (.int .i64 x5) := by rw [← hwz]; simp [go_sem]
        have hsz := hbz.size
        rw [hwz] at HOW ⊢
        clear hwz c0 c1 c2 c3 c4 c5 c6
        go_wp2_with (first | (at_builtin; go_loud (refine wpList_append_lies _ rfl _ _ 36 rfl wL.heap.size 76 n0 _ 2 16 Try.underlying36 hi hz0 hz1 hz2 rfl (by decide) (.slice av ln cv) ln _ (by rfl) HOW.out ⟨wz.heap.size, 0, none⟩ 1 1 [.int .i64 x4, .int .i64 x5] (by rfl) (by rfl) ?d1 ?d2 (by decide) ?d3 ?d4 ?d5 _ rfl ?_)))
        try case d1 =>
          refine World.news_of_block (cs := #[.int .i64 x4, .int .i64 x5]) (t := 76) (fr := (0, 0)) ?_
          exact heap_alloc_new _ _
        case d2 => simp [Value.oneCell']
        case d3 => unfold maxLen; omega
        case d4 => omega
        case d5 => first | (simp; omega) | (simp; done) | omega
        intro g6 c6 w6 hown6 hgrow6 hat6 hlt6
        have hb6 : Below wL.heap.size wL w6 := ((hbz.alloc hsz _).grown hgrow6 (by first | (simp; omega) | simp) (fun z hz => by
          rcases HOW.out.2 with ⟨h, _⟩ | ⟨g2, c3, cur, h1, h2, _⟩
          · rw [h] at hz; simp [Value.ownBlock] at hz
          · rw [h1] at hz; simp [Value.ownBlock] at hz; omega))
        go_wp2_with fail
        go_roundw
        case rel => exact ⟨k + 1, by omega, by go_num, ⟨_, c6, by rw [← HAP.out.1]⟩, Lib.hid (by rw [← HAP.out.1, ← HAP.out.2]; exact hown6), hb6⟩
        case measure => simp [intOf]; omega
      · have d1 : (x0 == m) = false := by simpa using hm
        have HAP : Hid (O = ordK m L (k + 1)) := Lib.hid (by rw [HNk.out, if_neg hm])
        clear HNk hm
        have hbs := hbr.size
        have hb6 := hbr.alloc hbs (.cells #[.int .i64 x0, .int .i64 x1, .int .i64 x2, .int .i64 x3, .int .i64 x4, .int .i64 x5, .int .i64 x6] 67)
        have HO6 := Lib.hid (HRow.out.alloc (.cells #[.int .i64 x0, .int .i64 x1, .int .i64 x2, .int .i64 x3, .int .i64 x4, .int .i64 x5, .int .i64 x6] 67))
        go_wp2_with fail
        go_roundw
        case rel => exact ⟨k + 1, by omega, by go_num, ⟨av, cv, by rw [← HAP.out]⟩, by rw [← HAP.out]; exact HO6, hb6⟩
        case measure => simp [intOf]; omega
    · obtain rfl : L.length = k := by omega
      have HEnd := Lib.hid (HRS.out _ _ _ _ HRow.out)
      clear HC HLa HNx HLn HRS hlt
      go_wp2_with fail
      go_ret2
      exact ⟨_, _, L, rfl, HPm.out, HSr.out, HEnd.out, HBL.out.trans (hbr.mono HBL.out.size)⟩
end Go.Proofs.Ytgphkfonjfdifaa

namespace Go.Proofs.Ytgphkfonjfdifaa
set_option linter.unusedVariables false
set_option linter.unusedSimpArgs false
theorem loadNoneR (P : Program) (w : World) (a : Addr) : (loadCells a 0).run P w = .ok #[] w := rfl
theorem run_append_zeroR {P : Program} {w : World} (base : Nat) (t ty e : TypeId) (i : TypeInfo) (size : Nat) (ht : P.underlying t = some (.slice e)) (hi : P.info? e = some i)
    (v : Value) (n : Nat) (xs : List Value) (hown : w.ownsRow base e size v n xs) (ao : Option Addr) (c : Nat) :
    (Builtin.append_ #[t, t] ty #[v, .slice ao 0 c]).run P w = .ok v w := by
  rcases hown.2 with ⟨rfl, rfl⟩ | ⟨g, cap, cur, rfl, _, _, hnc, _⟩
  · cases ao <;> simp [Builtin.append_, run_underlying ht, sizeOf, typeInfo, hi, Builtin.lenOf, Builtin.firstCells, loadNoneR, Result.andThen]
  · cases ao <;> simp [Builtin.append_, run_underlying ht, sizeOf, typeInfo, hi, Builtin.lenOf, Builtin.firstCells, hnc, storeCells, loadNoneR, Result.andThen]
theorem stepZ {P : Program} {ops : Array Oper} {o : Oper} {a : Act} {K : Act → World → Prop} {Q : Exit → Act → World → Prop} {E : Prop} {w : World} (hgd : o.guard = none) (s x : Operand) (t : TypeId)
    (ho : o.op = .call { callee := .builtin .append, args := #[s, x], argTypes := #[t, t] })
    (base : Nat) (e : TypeId) (i : TypeInfo) (size : Nat) (ht : P.underlying t = some (.slice e)) (hi : P.info? e = some i)
    (v : Value) (n : Nat) (xs : List Value) (hs : a.eval s = v) (hown : w.ownsRow base e size v n xs) (ao : Option Addr) (m c : Nat) (hx : a.eval x = .slice ao m c) (hm : m = 0)
    (h : K (a.put o.dst v) w) : if Region.wanted o (yielded ops a.tmps) = true then Oper.wp P o a w K Q else E := by
  subst hm
  have hw : Region.wanted o (yielded ops a.tmps) = true := by simp [Region.wanted, hgd]
  rw [if_pos hw]
  have hrun := run_append_zeroR (P := P) (w := w) base t o.type e i size ht hi v n xs hown ao c
  unfold Oper.wp
  simp [execOp, ho, resolve, invoke, builtin, hs, hx, hrun, Result.andThen]
  exact h
end Go.Proofs.Ytgphkfonjfdifaa

namespace Go.Proofs.Ytgphkfonjfdifaa
set_option linter.unusedVariables false
set_option linter.unusedSimpArgs false
open Go.RowKit

theorem owns_belowI {w w' : World} {base : Nat} {e : TypeId} {size : Nat} {v : Value} {n : Nat} {xs : List Value} (h : w.ownsRow base e size v n xs) (hb : Below w.heap.size w w') : w'.ownsRow base e size v n xs := by
  refine ⟨h.1, ?_⟩
  rcases h.2 with h2 | ⟨g, cap, cur, h1, h2, h3, h4⟩
  · exact .inl h2
  · have hg : g < w.heap.size := (Array.getElem?_eq_some_iff.1 h3).1
    exact .inr ⟨g, cap, cur, h1, h2, by rw [hb.block g hg]; exact h3, h4⟩
theorem owns_baseI {w : World} {base base' : Nat} {e : TypeId} {size : Nat} {v : Value} {n : Nat} {xs : List Value} (h : w.ownsRow base e size v n xs) (hb : base' ≤ base) : w.ownsRow base' e size v n xs := by
  refine ⟨h.1, ?_⟩
  rcases h.2 with h2 | ⟨g, cap, cur, h1, h2, h3, h4⟩
  · exact .inl h2
  · exact .inr ⟨g, cap, cur, h1, Nat.le_trans hb h2, h3, h4⟩
theorem owns_blockI {w : World} {base : Nat} {e : TypeId} {size : Nat} {v : Value} {n : Nat} {xs : List Value} (h : w.ownsRow base e size v n xs) {z : Nat} (hz : v.ownBlock = some z) : base ≤ z := by
  rcases h.2 with ⟨h1, _⟩ | ⟨g2, c3, cur, h1, h2, _⟩
  · rw [h1] at hz; simp [Value.ownBlock] at hz
  · rw [h1] at hz; simp [Value.ownBlock] at hz; omega
/-- The places of placed steps, as pairs. -/
def prs (O : List Plc) : List (Int × Int) := O.map fun p => (p.j, p.n)
theorem prs_len (O : List Plc) : (prs O).length = O.length := by simp [prs]
theorem prs_at (O : List Plc) {i : Nat} (h : i < O.length) : gp (prs O) i = ((gc O i).j, (gc O i).n) := by
  unfold gp gc prs; simp [h]
def encJ (x : Plc) : List Value := [.int .i64 x.j, .int .i64 x.n]
theorem encJ_len (x : Plc) : (encJ x).length = 2 := rfl
def clJ (O : List Plc) : List Value := O.flatMap encJ
theorem clJ_pr (O : List Plc) : clJ O = clS (prs O) := by unfold clJ clS prs; rw [List.flatMap_map]; rfl
theorem clJ_len (O : List Plc) : (clJ O).length = O.length * 2 := by
  induction O with
  | nil => rfl
  | cons p l ih => unfold clJ at *; rw [List.flatMap_cons, List.length_append, ih, encJ_len]; simp; omega
theorem clJ_app (a b : List Plc) : clJ (a ++ b) = clJ a ++ clJ b := by simp [clJ]
theorem clJ_one (O : List Plc) : ∀ v ∈ clJ O, v.oneCell' = true := by
  intro v hv
  unfold clJ at hv
  obtain ⟨p, _, hp⟩ := List.mem_flatMap.1 hv
  simp [encJ] at hp
  rcases hp with rfl | rfl <;> rfl
theorem clJ_take : ∀ (s : List Plc) (k : Nat), (clJ s).take (k * 2) = clJ (s.take k)
  | s, 0 => by simp [clJ]
  | [], k + 1 => by simp [clJ]
  | p :: s, k + 1 => by
    have ih := clJ_take s k
    unfold clJ at *
    rw [List.take_succ_cons, List.flatMap_cons, List.flatMap_cons, List.take_append, List.take_of_length_le (by rw [encJ_len]; omega), encJ_len, show (k + 1) * 2 - 2 = k * 2 by omega, ih]
theorem clJ_drop : ∀ (s : List Plc) (k : Nat), (clJ s).drop (k * 2) = clJ (s.drop k)
  | s, 0 => by simp [clJ]
  | [], k + 1 => by simp [clJ]
  | p :: s, k + 1 => by
    have ih := clJ_drop s k
    unfold clJ at *
    rw [List.drop_succ_cons, List.flatMap_cons, List.drop_append, List.drop_of_length_le (by rw [encJ_len]; omega), encJ_len, show (k + 1) * 2 - 2 = k * 2 by omega, ih]
    rfl
theorem clJ_c (O : List Plc) (i : Nat) (hi : i < O.length) : (clJ O)[i * 2]? = some (.int .i64 (gc O i).j) ∧ (clJ O)[i * 2 + 1]? = some (.int .i64 (gc O i).n) := by
  have h := prs_at O hi
  rw [clJ_pr]
  exact ⟨by rw [clS_0 _ i (by rw [prs_len]; exact hi), h], by rw [clS_1 _ i (by rw [prs_len]; exact hi), h]⟩
/-- The place of a start in a list, from place k down. -/
def plcT (v : Int) (O : List Plc) : Nat → Nat
  | 0 => 0
  | k + 1 => if v < (gc O k).st then plcT v O k else k + 1
theorem plcT_le (v : Int) (O : List Plc) : ∀ k, plcT v O k ≤ k
  | 0 => Nat.le_refl _
  | k + 1 => by
    have := plcT_le v O k
    rw [plcT]; split <;> omega
def insT (x : Plc) (O : List Plc) : List Plc := O.take (plcT x.st O O.length) ++ x :: O.drop (plcT x.st O O.length)
/-- The steps of a machine among the first k ones of a list, in the order of their starts. -/
def insK (m : Int) (L : List Plc) : Nat → List Plc
  | 0 => []
  | k + 1 => if (gc L k).m = m then insT (gc L k) (insK m L k) else insK m L k
def insV (m : Int) (L : List Plc) : List Plc := insK m L L.length
theorem insT_perm (x : Plc) (O : List Plc) : (insT x O).Perm (x :: O) := by
  unfold insT
  refine (List.perm_middle).trans ?_
  rw [List.take_append_drop]
theorem insK_len (m : Int) (L : List Plc) : ∀ k, (insK m L k).length ≤ k
  | 0 => by simp [insK]
  | k + 1 => by
    have := insK_len m L k
    rw [insK]; split
    · have := (insT_perm (gc L k) (insK m L k)).length_eq
      simp at this; omega
    · omega
theorem insK_mem {m : Int} {L : List Plc} {x : Plc} : ∀ {k}, k ≤ L.length → x ∈ insK m L k → ∃ i, i < L.length ∧ x = gc L i
  | 0, _, h => by cases h
  | k + 1, hk, h => by
    rw [insK] at h
    split at h
    · have h := (insT_perm _ _).mem_iff.1 h
      rcases List.mem_cons.1 h with h | h
      · exact ⟨k, by omega, h⟩
      · exact insK_mem (by omega) h
    · exact insK_mem (by omega) h
/-- Does the place go on down? -/
def cndT (v : Int) (O : List Plc) (j : Nat) : Bool := decide (0 < j) && decide (v < (gc O (j - 1)).st)
theorem plcT_true {v : Int} {O : List Plc} {j : Nat} (h : cndT v O j = true) : 0 < j ∧ plcT v O j = plcT v O (j - 1) := by
  unfold cndT at h
  rw [Bool.and_eq_true, decide_eq_true_eq, decide_eq_true_eq] at h
  obtain ⟨t, rfl⟩ : ∃ t, j = t + 1 := ⟨j - 1, by omega⟩
  rw [Nat.add_sub_cancel] at h ⊢
  exact ⟨h.1, by rw [plcT, if_pos h.2]⟩
theorem plcT_false {v : Int} {O : List Plc} {j : Nat} (h : cndT v O j = false) : plcT v O j = j := by
  unfold cndT at h
  cases j with
  | zero => rfl
  | succ t =>
    rw [decide_eq_true (by omega), Bool.true_and, decide_eq_false_iff_not, Nat.add_sub_cancel] at h
    rw [plcT, if_neg h]
def RfO (s : Sh) (P : List (List Int)) (m : Int) (w : World) (e : Ending) (w' : World) : Prop := ∃ (a : Option Addr) (c : Nat), e = .returned (.slice a (prs (insV m (plcL s P))).length c) ∧ PairsS w' a (prs (insV m (plcL s P))) ∧ Below w.heap.size w w'
set_option maxRecDepth 100000 in
set_option maxHeartbeats 8000000 in
theorem refOrder_good (s : Sh) (ap : Option Addr) (P : List (List Int)) (cp : Nat) (m : Int) (w : World) (hI : ShS w s) (hV : ShOk s) (hP : RowsS w ap P) (hO : PlanOk s P) :
    Calls Try.prog 21 #[.agg #[.int .i64 s.O, .int .i64 s.C, .slice s.aH s.H.length s.cH, .int .i64 s.M, .slice s.aS s.S.length s.cS, .slice s.aJ s.J.length s.cJ], .slice ap P.length cp, .int .i64 m] w (RfO s P m w) := by
  have HLs := Lib.hid (fun W (hW : Below w.heap.size w W) => list_sh s W (hI.below hW) hV)
  have HAt := Lib.hid (fun a b (ha : a < s.J.length) (hb : b < (gj s.J a).length) W (hW : Below w.heap.size w W) => at_sh s a b W (hI.below hW) hV ha hb)
  have hfl : (flP s.J).length ≤ 200 := by have := flI_len hV s.J.length (Nat.le_refl _); have := hV.2.2.2.1; unfold flP; omega
  have hpl : (plcL s P).length = (flP s.J).length := plcL_len s P
  have HIN : Hid (∀ n a b : Nat, n < (flP s.J).length → gp (flP s.J) n = ((a : Int), (b : Int)) → ∃ X : Plc, X.m = (gs (gj s.J a) b).1 ∧ X.j = a ∧ X.n = b ∧ X.st = gi (gr P a) b ∧ insK m (plcL s P) (n + 1) = if X.m = m then insT X (insK m (plcL s P) n) else insK m (plcL s P) n) := Lib.hid fun n a b hn e => by
    refine ⟨gc (plcL s P) n, ?_, ?_, ?_, ?_, rfl⟩ <;> (rw [plcL_at s P hn, e]; rfl)
  have HME : Hid (∀ n k, n ≤ (flP s.J).length → k < (insK m (plcL s P) n).length → ∃ a b : Nat, (a < P.length ∧ b < (gr P a).length) ∧ (gc (insK m (plcL s P) n) k).j = a ∧ (gc (insK m (plcL s P) n) k).n = b ∧ (gc (insK m (plcL s P) n) k).st = gi (gr P a) b) := Lib.hid fun n k hn hk => by
    obtain ⟨i, hi, e⟩ := insK_mem (m := m) (L := plcL s P) (k := n) (by rw [hpl]; exact hn) (x := gc (insK m (plcL s P) n) k) (by rw [gc_at _ hk]; exact List.getElem_mem hk)
    rw [hpl] at hi
    obtain ⟨a, b, ep, ha, hb⟩ := flP_at hi
    refine ⟨a, b, ⟨by rw [hO.1]; exact ha, by rw [(hO.2 a (by rw [hO.1]; exact ha)).1]; exact hb⟩, ?_, ?_, ?_⟩ <;> (rw [e, plcL_at s P hi, ep]; rfl)
  have HLn := Lib.hid (insK_len m (plcL s P))
  have HRS : Hid (∀ W a c base, W.ownsRow base 76 2 (.slice a (insK m (plcL s P) (flP s.J).length).length c) (insK m (plcL s P) (flP s.J).length).length (clJ (insK m (plcL s P) (flP s.J).length)) → PairsS W a (prs (insV m (plcL s P)))) := Lib.hid fun W a c base h => by
    have e : insK m (plcL s P) (flP s.J).length = insV m (plcL s P) := by unfold insV; rw [hpl]
    rw [e, clJ_pr, ← prs_len] at h
    refine pairs_own h (by have := insK_len m (plcL s P) (plcL s P).length; rw [prs_len]; unfold insV; omega) fun j hj => ?_
    rw [prs_len] at hj
    obtain ⟨i, hi, e⟩ := insK_mem (m := m) (L := plcL s P) (k := (plcL s P).length) (Nat.le_refl _) (x := gc (insV m (plcL s P)) j) (by rw [gc_at _ hj]; exact List.getElem_mem hj)
    obtain ⟨a, b, h1, h2, h3, h4⟩ := plcL_mem (x := gc (insV m (plcL s P)) j) (by rw [e, gc_at _ hi]; exact List.getElem_mem hi)
    have := (hV.2.2.2.2 a h3).1
    have := hV.2.2.2.1
    rw [prs_at _ hj, h1, h2]
    unfold I64
    exact ⟨⟨by simp only; omega, by simp only; omega⟩, ⟨by simp only; omega, by simp only; omega⟩⟩
  have HEL : Hid (insV m (plcL s P) = insK m (plcL s P) (flP s.J).length) := Lib.hid (by unfold insV; rw [hpl])
  obtain ⟨n0, hi, hz0, hz1, hz2⟩ := info_parts pairInfo
  obtain ⟨hlP, pb, po, ad, cq, hadr, hc⟩ := hP
  have HR0 : Hid (∀ a, a < P.length → w.cell? ⟨pb, po + a, none⟩ = some (.slice (ad a) (gr P a).length (cq a)) ∧ IntsS w (ad a) (gr P a)) := Lib.hid fun a ha => ⟨(hc a ha).1, (hc a ha).2.1⟩
  have HLa : Hid (0 < P.length → ap = some ⟨pb, po, none⟩) := Lib.hid fun h => hadr (List.ne_nil_of_length_pos h)
  have HO := Lib.hid hO
  have HVV := Lib.hid hV
  have HPJ := Lib.hid hO.1
  obtain ⟨N, hN⟩ : ∃ N, (flP s.J).length = N := ⟨_, rfl⟩
  rw [hN] at HLs hfl HIN HME HRS HEL
  clear hI hO hV hadr hc hpl
  have HB := Lib.hid (ShBox.start w s 25)
  have HNN := Lib.hid hN
  clear hN
  unfold RfO
  go_enter Try.func21, Try.ntmps21
  go_wp2_with fail
  obtain ⟨wB, hwB⟩ : ∃ wB, w.alloc (.cells #[.int .i64 s.O, .int .i64 s.C, .slice s.aH s.H.length s.cH, .int .i64 s.M, .slice s.aS s.S.length s.cS, .slice s.aJ s.J.length s.cJ] 25) = wB := ⟨_, rfl⟩
  rw [hwB] at HB ⊢
  clear hwB
  obtain ⟨hb, p0, p1, p2, p3, p4, p5⟩ := HB.out
  clear HB
  go_wp2_with (go_at_call 47; refine (HLs.out _ hb).mono ?_; rintro e w1 ⟨la, lc, rfl, hPS, hb1⟩; replace hb := hb.trans (hb1.mono hb.size); replace p0 := cell_below p0 hb1; replace p1 := cell_below p1 hb1; replace p2 := cell_below p2 hb1; replace p3 := cell_below p3 hb1; replace p4 := cell_below p4 hb1; replace p5 := cell_below p5 hb1; clear hb1)
  obtain ⟨wL, rfl⟩ : ∃ wL : World, wL = w1 := ⟨_, rfl⟩
  obtain ⟨hl9, hi64, lb, lo, hadr, hc⟩ := hPS
  rw [HNN.out] at hc
  have HC := Lib.hid hc
  have HLl : Hid (0 < N → la = some ⟨lb, lo, none⟩) := Lib.hid fun h => hadr (by intro e; have h9 := HNN.out; rw [e] at h9; simp at h9; omega)
  have HR : Hid (∀ a, a < P.length → wL.cell? ⟨pb, po + a, none⟩ = some (.slice (ad a) (gr P a).length (cq a)) ∧ IntsS wL (ad a) (gr P a)) := Lib.hid fun a ha => ⟨cell_below (HR0.out a ha).1 hb, (HR0.out a ha).2.below hb⟩
  have HP0 := Lib.hid p0
  have HP1 := Lib.hid p1
  have HP2 := Lib.hid p2
  have HP3 := Lib.hid p3
  have HP4 := Lib.hid p4
  have HP5 := Lib.hid p5
  have HBL := Lib.hid hb
  clear hadr hc hi64 hl9 p0 p1 p2 p3 p4 p5 hb HLs HR0
  go_loopw [7, 9] (fun v i wr => ∃ n : Nat, n ≤ N ∧ i = .int .i64 n ∧ (∃ a c, v = .slice a (insK m (plcL s P) n).length c) ∧ Hid (wr.ownsRow wL.heap.size 76 2 v (insK m (plcL s P) n).length (clJ (insK m (plcL s P) n))) ∧ Below wL.heap.size wL wr) (fun _ i _ => N - (intOf i).toNat)
  case atStart => exact ⟨0, Nat.zero_le _, rfl, ⟨none, 0, rfl⟩, Lib.hid ⟨rfl, .inl ⟨rfl, rfl⟩⟩, Below.refl _ _⟩
  case round =>
    obtain ⟨n, hn, rfl, ⟨av, cv, rfl⟩, HRow, hbr⟩ := hrel
    by_cases hlt : n < N
    · obtain rfl := HLl.out (by omega)
      have hnl : n < (flP s.J).length := by rw [HNN.out]; exact hlt
      obtain ⟨a, b, egq, haq, hbq⟩ := flP_at (J := s.J) (n := n) hnl
      have haPq : a < P.length := by have := HO.out.1; omega
      have hbPq : b < (gr P a).length := by have := (HO.out.2 a haPq).1; omega
      obtain ⟨q0, q1⟩ := HC.out n (by omega)
      rw [egq] at q0 q1
      obtain ⟨gq, hrowq⟩ := HR.out a haPq
      obtain ⟨rb, ro, eaq, hq⟩ := row_cell hrowq hbPq
      rw [eaq] at gq
      have hstq := (HO.out.2 a haPq).2 b hbPq
      have hspq := (HVV.out.2.2.2.2 a haq).2 b hbq
      obtain rfl := HLa.out (by omega)
      have p0 := cell_below HP0.out hbr
      have p1 := cell_below HP1.out hbr
      have p2 := cell_below HP2.out hbr
      have p3 := cell_below HP3.out hbr
      have p4 := cell_below HP4.out hbr
      have p5 := cell_below HP5.out hbr
      have hzp := block_lt p0
      have q0 := cell_below q0 hbr
      have q1 := cell_below q1 hbr
      have gq := cell_below gq hbr
      have hq := cell_below hq hbr
      have hzq := block_lt q0
      have hzg := block_lt gq
      have hzh := block_lt hq
      have haI : (a : Int) < P.length := by omega
      have hbI : (b : Int) < (gr P a).length := by omega
      have hnI : (n : Int) < N := by omega
      have HbR := Lib.hid (HBL.out.trans (hbr.mono HBL.out.size))
      have Hbr := Lib.hid hbr
      have HAtn := Lib.hid (fun W (hW : Below w.heap.size w W) => HAt.out a b haq hbq W hW)
      obtain ⟨X, hXm, hXj, hXn, hXs, hNX⟩ := HIN.out n a b (by omega) egq
      have HMEn := Lib.hid (fun k => HME.out n k hn)
      have hEl := HLn.out n
      rw [hXm] at hNX
      have HNX := Lib.hid hNX
      obtain ⟨E, hE⟩ : ∃ E, insK m (plcL s P) n = E := ⟨_, rfl⟩
      rw [hE] at HNX HMEn hEl HRow ⊢
      rw [← hXs] at hq
      have HXj := Lib.hid hXj
      have HXn := Lib.hid hXn
      clear hXs hXj hXn
      generalize gs (gj s.J a) b = y at *
      have f1 : ∀ W, (Instr.field 57 (.agg #[.int .i64 y.1, .int .i64 y.2.1, .int .i64 y.2.2.1, .int .i64 y.2.2.2]) 0).run Try.prog W = .ok (.int .i64 y.1) W := fun _ => by kernel_rfl
      clear hbr HAt HIN HME HLn HRS HEL HLa HC HO HVV HPJ egq haq hbq haPq hbPq hrowq eaq hstq hspq hNX hE hXm
      by_cases hm : y.1 = m
      · have d1 : (y.1 != m) = false := by simpa using hm
        have HNX := Lib.hid (HNX.out.trans (if_pos hm))
        clear hm
        go_wp2_with fail
        refine wp_region_held_drew (S := fun w' => Below wr.heap.size wr w') (by kernel_rfl) ((Below.refl _ _).drew) (fun hHeld => ?_)
        refine wpAnyH_take (i := 0) (oi := { dst := some 19, op := Go.Op.load 25 (Go.Operand.tmp 3), type := 25, pos := "ref.go:194", after := #[], guard := none }) (v := .agg #[.int .i64 s.O, .int .i64 s.C, .slice s.aH s.H.length s.cH, .int .i64 s.M, .slice s.aS s.S.length s.cS, .slice s.aJ s.J.length s.cJ]) rfl (by kernel_rfl) (by kernel_rfl) (by kernel_rfl) (fun _ _ _ h => h) (.inl ⟨by kernel_rfl, fun w9 h9 => by
          clear hHeld
          have d0 := (h9.cell (p := ⟨w.heap.size, 0, none⟩) hzp).trans p0
          have d1 := (h9.cell (p := ⟨w.heap.size, 1, none⟩) hzp).trans p1
          have d2 := (h9.cell (p := ⟨w.heap.size, 2, none⟩) hzp).trans p2
          have d3 := (h9.cell (p := ⟨w.heap.size, 3, none⟩) hzp).trans p3
          have d4 := (h9.cell (p := ⟨w.heap.size, 4, none⟩) hzp).trans p4
          have d5 := (h9.cell (p := ⟨w.heap.size, 5, none⟩) hzp).trans p5
          clear h9
          go_simp⟩) hHeld ?_
        refine takeU (i := 1) (some 20) (.slice (some ⟨lb, lo, none⟩) N lc) (by kernel_rfl) (by kernel_rfl) (by kernel_rfl) (by kernel_rfl) (by kernel_rfl) (fun _ => by kernel_rfl) (fun _ _ _ h => h) hHeld ?_
        refine takeU (i := 2) (some 21) (.int .i64 n) (by kernel_rfl) (by kernel_rfl) (by kernel_rfl) (by kernel_rfl) (by kernel_rfl) (fun _ => by kernel_rfl) (fun _ _ _ h => h) hHeld ?_
        refine wpAnyH_take (i := 3) (oi := { dst := some 22, op := Go.Op.indexAddr 36 (Go.Operand.tmp 20) (Go.Operand.tmp 21), type := 0, pos := "ref.go:194", after := #[{ on := 1, ground := Go.Ground.data }, { on := 2, ground := Go.Ground.data }], guard := none }) (v := .pointer (some ⟨lb, lo + n * 2, none⟩)) rfl (by kernel_rfl) (by kernel_rfl) (by kernel_rfl) (fun _ _ _ h => h) (.inl ⟨by kernel_rfl, fun w9 h9 => by
          clear hHeld h9
          go_simp⟩) hHeld ?_
        refine wpAnyH_take (i := 4) (oi := { dst := some 23, op := Go.Op.load 76 (Go.Operand.tmp 22), type := 76, pos := "ref.go:194", after := #[{ on := 3, ground := Go.Ground.data }], guard := none }) (v := .agg #[.int .i64 a, .int .i64 b]) rfl (by kernel_rfl) (by kernel_rfl) (by kernel_rfl) (fun _ _ _ h => h) (.inl ⟨by kernel_rfl, fun w9 h9 => by
          clear hHeld
          have d0 := (h9.cell (p := ⟨lb, lo + n * 2, none⟩) hzq).trans q0
          have d1 := (h9.cell (p := ⟨lb, lo + n * 2 + 1, none⟩) hzq).trans q1
          clear h9
          go_simp⟩) hHeld ?_
        refine takeU (i := 7) (some 26) (.int .i64 m) (by kernel_rfl) (by kernel_rfl) (by kernel_rfl) (by kernel_rfl) (by kernel_rfl) (fun _ => by kernel_rfl) (fun _ _ _ h => h) hHeld ?_
        try simp only [Act.put, List.setIfInBounds_toArray, List.set_cons_zero, List.set_cons_succ]
        refine wpAnyH_ready (rs := [5]) (by kernel_rfl) (by simp) ?_
        refine AllReadyH.cons (o := { dst := some 24, op := Go.Op.call { callee := Go.Callee.value (Go.Operand.func 49), args := #[Go.Operand.tmp 19, Go.Operand.tmp 23], argTypes := #[25, 76] }, type := 57, pos := "ref.go:194", after := #[{ on := 0, ground := Go.Ground.data }, { on := 4, ground := Go.Ground.data }], guard := none }) rfl (fun K hK => ?_) AllReadyH.nil
        go_simp
        go_at_call 49
        refine (HAtn.out _ (HbR.out.trans (hHeld.mono HbR.out.size))).mono ?_
        rintro e w59 ⟨rfl, hb59⟩
        refine hK.out _ _ (hHeld.trans (hb59.mono hHeld.size)) (fun hHeld => ?_)
        clear hK K hb59
        try simp only [Act.put, List.setIfInBounds_toArray, List.set_cons_zero, List.set_cons_succ]
        refine wpAnyH_take (i := 6) (oi := { dst := some 25, op := Go.Op.field 57 (Go.Operand.tmp 24) 0, type := 3, pos := "ref.go:194", after := #[{ on := 5, ground := Go.Ground.data }], guard := none }) (v := .int .i64 y.1) rfl (by kernel_rfl) (by kernel_rfl) (by kernel_rfl) (fun _ _ _ h => h) (.inl ⟨by kernel_rfl, fun w9 h9 => by
          clear hHeld h9
          go_simp⟩) hHeld ?_
        refine wpAnyH_take (i := 8) (oi := { dst := some 27, op := Go.Op.binOp Go.BinOp.neq 3 (Go.Operand.tmp 25) (Go.Operand.tmp 26) 3, type := 4, pos := "ref.go:194", after := #[{ on := 6, ground := Go.Ground.data }, { on := 7, ground := Go.Ground.data }], guard := none }) (v := .bool false) rfl (by kernel_rfl) (by kernel_rfl) (by kernel_rfl) (fun _ _ _ h => h) (.inl ⟨by kernel_rfl, fun w9 h9 => by
          clear hHeld h9
          go_simp⟩) hHeld ?_
        refine wpAnyH_done (by kernel_rfl) ?_ _
        try simp only [Act.put, List.setIfInBounds_toArray, List.set_cons_zero, List.set_cons_succ]
        obtain ⟨wj, rfl⟩ : ∃ wj : World, wj = w59 := ⟨_, rfl⟩
        have HGJ := Lib.hid hHeld
        have HRowJ := Lib.hid (owns_belowI HRow.out hHeld)
        have Q0 := Lib.hid (cell_below q0 hHeld)
        have Q1 := Lib.hid (cell_below q1 hHeld)
        have GQ := Lib.hid (cell_below gq hHeld)
        have HQ := Lib.hid (cell_below hq hHeld)
        have HLJ := Lib.hid (Hbr.out.trans (hHeld.mono Hbr.out.size))
        have HRJ : Hid (∀ a, a < P.length → wj.cell? ⟨pb, po + a, none⟩ = some (.slice (ad a) (gr P a).length (cq a)) ∧ IntsS wj (ad a) (gr P a)) := Lib.hid fun a ha => ⟨cell_below (HR.out a ha).1 HLJ.out, (HR.out a ha).2.below HLJ.out⟩
        clear p0 p1 p2 p3 p4 p5 q0 q1 gq hq hzp hzq hzg hzh HbR hHeld HR HAtn HRow HP0 HP1 HP2 HP3 HP4 HP5 f1 d1
        go_wp2_with fail
        go_loopw [10] (fun k9 wk => ∃ j : Nat, j ≤ E.length ∧ k9 = .int .i64 j ∧ Hid (plcT X.st E E.length = plcT X.st E j) ∧ Below wj.heap.size wj wk) (fun k9 _ => (intOf k9).toNat)
        case atStart => exact ⟨E.length, Nat.le_refl _, rfl, Lib.hid rfl, Below.refl _ _⟩
        case round =>
          obtain ⟨j, hj, rfl, HPj, hbk⟩ := hrel
          obtain ⟨wk, rfl⟩ : ∃ wk : World, wk = wr := ⟨_, rfl⟩
          have q0 := cell_below Q0.out hbk
          have q1 := cell_below Q1.out hbk
          have hzq := block_lt q0
          have HRowk := Lib.hid (owns_belowI HRowJ.out hbk)
          go_upto_region 8 with (fail)
          go_cut [66] (fun v wx => v = .bool (cndT X.st E j) ∧ Below wk.heap.size wk wx)
          case first =>
            by_cases hj0 : 0 < j
            · obtain ⟨t, rfl⟩ : ∃ t, j = t + 1 := ⟨j - 1, by omega⟩
              obtain ⟨g, hg⟩ : ∃ g, av = some ⟨g, 0, none⟩ := by
                rcases HRowk.out.2 with ⟨h1, h2⟩ | ⟨g2, c2, cur, h1, _⟩
                · omega
                · exact ⟨g2, by simpa using (Value.slice.inj h1).1⟩
              subst hg
              have htl : t < E.length := by omega
              have e0 := World.ownsRow.cellAt HRowk.out (t * 2) (by omega)
              have e1 := World.ownsRow.cellAt HRowk.out (t * 2 + 1) (by omega)
              rw [(clJ_c E t htl).1] at e0
              rw [(clJ_c E t htl).2] at e1
              obtain ⟨a2, b2, ⟨ha2, hb2⟩, ea, eb, es⟩ := HMEn.out t htl
              rw [ea] at e0
              rw [eb] at e1
              obtain ⟨gg, hrow2⟩ := HRJ.out a2 ha2
              obtain ⟨rb2, ro2, ead2, hh⟩ := row_cell hrow2 hb2
              rw [ead2] at gg
              rw [← es] at hh
              have gg := cell_below gg hbk
              have hh := cell_below hh hbk
              have gq := cell_below GQ.out hbk
              have hq := cell_below HQ.out hbk
              have hzg := block_lt gq
              have hzh := block_lt hq
              have hze := block_lt e0
              have hzgg := block_lt gg
              have hzhh := block_lt hh
              have haI2 : (a2 : Int) < P.length := by omega
              have hbI2 : (b2 : Int) < (gr P a2).length := by omega
              have htw : IntKind.i64.wrap (((t + 1 : Nat) : Int) - 1) = (t : Int) := by rw [show ((t + 1 : Nat) : Int) - 1 = (t : Int) by omega]; exact IntWalk.i64_in _ (by omega)
              have htl2 : (t : Int) < (E.length : Int) := by omega
              have HCn : Hid (cndT X.st E (t + 1) = decide (X.st < (gc E t).st)) := Lib.hid (by unfold cndT; rw [decide_eq_true hj0, Bool.true_and]; rfl)
              clear hrow2 ead2 es ea eb ha2 hb2 HPj HMEn
              generalize hJ : ((t + 1 : Nat) : Int) = J at *
              have hJ0 : 0 < J := by omega
              have HJ9 := Lib.hid hJ
              clear hJ
              obtain ⟨cc, hcc⟩ : ∃ cc, decide (X.st < (gc E t).st) = cc := ⟨_, rfl⟩
              rw [hcc] at HCn
              go_wp2_with fail
              refine wp_region_held_drew (S := fun w' => Below wk.heap.size wk w') (by kernel_rfl) ((Below.refl _ _).drew) (fun hHeld => ?_)
              refine takeU (i := 0) (some 30) (.int .i64 J) (by kernel_rfl) (by kernel_rfl) (by kernel_rfl) (by kernel_rfl) (by kernel_rfl) (fun _ => by kernel_rfl) (fun _ _ _ h => h) hHeld ?_
              refine wpAnyH_take (i := 1) (oi := { dst := some 31, op := Go.Op.binOp Go.BinOp.gtr 3 (Go.Operand.tmp 30) (Go.Operand.const (Go.Value.int Go.IntKind.i64 0)) 3, type := 4, pos := "ref.go:198", after := #[{ on := 0, ground := Go.Ground.data }], guard := none }) (v := .bool true) rfl (by kernel_rfl) (by kernel_rfl) (by kernel_rfl) (fun _ _ _ h => h) (.inl ⟨by kernel_rfl, fun w9 h9 => by
                clear hHeld h9
                go_simp⟩) hHeld ?_
              refine takeU (i := 2) (some 32) (.bool true) (by kernel_rfl) (by kernel_rfl) (by kernel_rfl) (by kernel_rfl) (by kernel_rfl) (fun _ => by kernel_rfl) (fun _ _ _ h => h) hHeld ?_
              refine takeU (i := 3) (some 33) (.slice (some ⟨pb, po, none⟩) P.length cp) (by kernel_rfl) (by kernel_rfl) (by kernel_rfl) (by kernel_rfl) (by kernel_rfl) (fun _ => by kernel_rfl) (fun _ _ _ h => h) hHeld ?_
              refine takeU (i := 4) (some 34) (.slice (some ⟨g, 0, none⟩) E.length cv) (by kernel_rfl) (by kernel_rfl) (by kernel_rfl) (by kernel_rfl) (by kernel_rfl) (fun _ => by kernel_rfl) (fun _ _ _ h => h) hHeld ?_
              refine takeU (i := 5) (some 35) (.int .i64 J) (by kernel_rfl) (by kernel_rfl) (by kernel_rfl) (by kernel_rfl) (by kernel_rfl) (fun _ => by kernel_rfl) (fun _ _ _ h => h) hHeld ?_
              refine wpAnyH_take (i := 6) (oi := { dst := some 36, op := Go.Op.binOp Go.BinOp.sub 3 (Go.Operand.tmp 35) (Go.Operand.const (Go.Value.int Go.IntKind.i64 1)) 3, type := 3, pos := "ref.go:198", after := #[{ on := 5, ground := Go.Ground.data }, { on := 2, ground := Go.Ground.guard }], guard := some (2, true) }) (v := .int .i64 t) rfl (by kernel_rfl) (by kernel_rfl) (by kernel_rfl) (fun _ _ _ h => h) (.inl ⟨by kernel_rfl, fun w9 h9 => by
                clear hHeld h9
                go_simp⟩) hHeld ?_
              refine wpAnyH_take (i := 7) (oi := { dst := some 37, op := Go.Op.indexAddr 36 (Go.Operand.tmp 34) (Go.Operand.tmp 36), type := 0, pos := "ref.go:198", after := #[{ on := 4, ground := Go.Ground.data }, { on := 6, ground := Go.Ground.data }, { on := 2, ground := Go.Ground.guard }], guard := some (2, true) }) (v := .pointer (some ⟨g, t * 2, none⟩)) rfl (by kernel_rfl) (by kernel_rfl) (by kernel_rfl) (fun _ _ _ h => h) (.inl ⟨by kernel_rfl, fun w9 h9 => by
                clear hHeld h9
                go_simp⟩) hHeld ?_
              refine wpAnyH_take (i := 8) (oi := { dst := some 38, op := Go.Op.indexAddr 76 (Go.Operand.tmp 37) (Go.Operand.const (Go.Value.int Go.IntKind.i64 0)), type := 0, pos := "ref.go:198", after := #[{ on := 7, ground := Go.Ground.data }, { on := 2, ground := Go.Ground.guard }], guard := some (2, true) }) (v := .pointer (some ⟨g, t * 2, none⟩)) rfl (by kernel_rfl) (by kernel_rfl) (by kernel_rfl) (fun _ _ _ h => h) (.inl ⟨by kernel_rfl, fun w9 h9 => by
                clear hHeld h9
                go_simp⟩) hHeld ?_
              refine wpAnyH_take (i := 9) (oi := { dst := some 39, op := Go.Op.load 3 (Go.Operand.tmp 38), type := 3, pos := "ref.go:198", after := #[{ on := 8, ground := Go.Ground.data }, { on := 2, ground := Go.Ground.guard }], guard := some (2, true) }) (v := .int .i64 a2) rfl (by kernel_rfl) (by kernel_rfl) (by kernel_rfl) (fun _ _ _ h => h) (.inl ⟨by kernel_rfl, fun w9 h9 => by
                clear hHeld
                have d0 := (h9.cell (p := ⟨g, t * 2, none⟩) hze).trans e0
                clear h9
                go_simp⟩) hHeld ?_
              refine wpAnyH_take (i := 10) (oi := { dst := some 40, op := Go.Op.indexAddr 26 (Go.Operand.tmp 33) (Go.Operand.tmp 39), type := 0, pos := "ref.go:198", after := #[{ on := 3, ground := Go.Ground.data }, { on := 9, ground := Go.Ground.data }, { on := 2, ground := Go.Ground.guard }], guard := some (2, true) }) (v := .pointer (some ⟨pb, po + a2, none⟩)) rfl (by kernel_rfl) (by kernel_rfl) (by kernel_rfl) (fun _ _ _ h => h) (.inl ⟨by kernel_rfl, fun w9 h9 => by
                clear hHeld h9
                go_simp⟩) hHeld ?_
              refine wpAnyH_take (i := 11) (oi := { dst := some 41, op := Go.Op.load 22 (Go.Operand.tmp 40), type := 22, pos := "ref.go:198", after := #[{ on := 10, ground := Go.Ground.data }, { on := 2, ground := Go.Ground.guard }], guard := some (2, true) }) (v := .slice (some ⟨rb2, ro2, none⟩) (gr P a2).length (cq a2)) rfl (by kernel_rfl) (by kernel_rfl) (by kernel_rfl) (fun _ _ _ h => h) (.inl ⟨by kernel_rfl, fun w9 h9 => by
                clear hHeld
                have d0 := (h9.cell (p := ⟨pb, po + a2, none⟩) hzgg).trans gg
                clear h9
                go_simp⟩) hHeld ?_
              refine takeU (i := 12) (some 42) (.slice (some ⟨g, 0, none⟩) E.length cv) (by kernel_rfl) (by kernel_rfl) (by kernel_rfl) (by kernel_rfl) (by kernel_rfl) (fun _ => by kernel_rfl) (fun _ _ _ h => h) hHeld ?_
              refine takeU (i := 13) (some 43) (.int .i64 J) (by kernel_rfl) (by kernel_rfl) (by kernel_rfl) (by kernel_rfl) (by kernel_rfl) (fun _ => by kernel_rfl) (fun _ _ _ h => h) hHeld ?_
              refine wpAnyH_take (i := 14) (oi := { dst := some 44, op := Go.Op.binOp Go.BinOp.sub 3 (Go.Operand.tmp 43) (Go.Operand.const (Go.Value.int Go.IntKind.i64 1)) 3, type := 3, pos := "ref.go:198", after := #[{ on := 13, ground := Go.Ground.data }, { on := 2, ground := Go.Ground.guard }], guard := some (2, true) }) (v := .int .i64 t) rfl (by kernel_rfl) (by kernel_rfl) (by kernel_rfl) (fun _ _ _ h => h) (.inl ⟨by kernel_rfl, fun w9 h9 => by
                clear hHeld h9
                go_simp⟩) hHeld ?_
              refine wpAnyH_take (i := 15) (oi := { dst := some 45, op := Go.Op.indexAddr 36 (Go.Operand.tmp 42) (Go.Operand.tmp 44), type := 0, pos := "ref.go:198", after := #[{ on := 12, ground := Go.Ground.data }, { on := 14, ground := Go.Ground.data }, { on := 2, ground := Go.Ground.guard }], guard := some (2, true) }) (v := .pointer (some ⟨g, t * 2, none⟩)) rfl (by kernel_rfl) (by kernel_rfl) (by kernel_rfl) (fun _ _ _ h => h) (.inl ⟨by kernel_rfl, fun w9 h9 => by
                clear hHeld h9
                go_simp⟩) hHeld ?_
              refine wpAnyH_take (i := 16) (oi := { dst := some 46, op := Go.Op.indexAddr 76 (Go.Operand.tmp 45) (Go.Operand.const (Go.Value.int Go.IntKind.i64 1)), type := 0, pos := "ref.go:198", after := #[{ on := 15, ground := Go.Ground.data }, { on := 2, ground := Go.Ground.guard }], guard := some (2, true) }) (v := .pointer (some ⟨g, t * 2 + 1, none⟩)) rfl (by kernel_rfl) (by kernel_rfl) (by kernel_rfl) (fun _ _ _ h => h) (.inl ⟨by kernel_rfl, fun w9 h9 => by
                clear hHeld h9
                go_simp⟩) hHeld ?_
              refine wpAnyH_take (i := 17) (oi := { dst := some 47, op := Go.Op.load 3 (Go.Operand.tmp 46), type := 3, pos := "ref.go:198", after := #[{ on := 16, ground := Go.Ground.data }, { on := 2, ground := Go.Ground.guard }], guard := some (2, true) }) (v := .int .i64 b2) rfl (by kernel_rfl) (by kernel_rfl) (by kernel_rfl) (fun _ _ _ h => h) (.inl ⟨by kernel_rfl, fun w9 h9 => by
                clear hHeld
                have d0 := (h9.cell (p := ⟨g, t * 2 + 1, none⟩) hze).trans e1
                clear h9
                go_simp⟩) hHeld ?_
              refine wpAnyH_take (i := 18) (oi := { dst := some 48, op := Go.Op.indexAddr 22 (Go.Operand.tmp 41) (Go.Operand.tmp 47), type := 0, pos := "ref.go:198", after := #[{ on := 11, ground := Go.Ground.data }, { on := 17, ground := Go.Ground.data }, { on := 2, ground := Go.Ground.guard }], guard := some (2, true) }) (v := .pointer (some ⟨rb2, ro2 + b2, none⟩)) rfl (by kernel_rfl) (by kernel_rfl) (by kernel_rfl) (fun _ _ _ h => h) (.inl ⟨by kernel_rfl, fun w9 h9 => by
                clear hHeld h9
                go_simp⟩) hHeld ?_
              refine wpAnyH_take (i := 19) (oi := { dst := some 49, op := Go.Op.load 3 (Go.Operand.tmp 48), type := 3, pos := "ref.go:198", after := #[{ on := 18, ground := Go.Ground.data }, { on := 2, ground := Go.Ground.guard }], guard := some (2, true) }) (v := .int .i64 (gc E t).st) rfl (by kernel_rfl) (by kernel_rfl) (by kernel_rfl) (fun _ _ _ h => h) (.inl ⟨by kernel_rfl, fun w9 h9 => by
                clear hHeld
                have d0 := (h9.cell (p := ⟨rb2, ro2 + b2, none⟩) hzhh).trans hh
                clear h9
                go_simp⟩) hHeld ?_
              refine takeU (i := 20) (some 50) (.slice (some ⟨pb, po, none⟩) P.length cp) (by kernel_rfl) (by kernel_rfl) (by kernel_rfl) (by kernel_rfl) (by kernel_rfl) (fun _ => by kernel_rfl) (fun _ _ _ h => h) hHeld ?_
              refine takeU (i := 21) (some 51) (.slice (some ⟨lb, lo, none⟩) N lc) (by kernel_rfl) (by kernel_rfl) (by kernel_rfl) (by kernel_rfl) (by kernel_rfl) (fun _ => by kernel_rfl) (fun _ _ _ h => h) hHeld ?_
              refine takeU (i := 22) (some 52) (.int .i64 n) (by kernel_rfl) (by kernel_rfl) (by kernel_rfl) (by kernel_rfl) (by kernel_rfl) (fun _ => by kernel_rfl) (fun _ _ _ h => h) hHeld ?_
              refine wpAnyH_take (i := 23) (oi := { dst := some 53, op := Go.Op.indexAddr 36 (Go.Operand.tmp 51) (Go.Operand.tmp 52), type := 0, pos := "ref.go:198", after := #[{ on := 21, ground := Go.Ground.data }, { on := 22, ground := Go.Ground.data }, { on := 2, ground := Go.Ground.guard }], guard := some (2, true) }) (v := .pointer (some ⟨lb, lo + n * 2, none⟩)) rfl (by kernel_rfl) (by kernel_rfl) (by kernel_rfl) (fun _ _ _ h => h) (.inl ⟨by kernel_rfl, fun w9 h9 => by
                clear hHeld h9
                go_simp⟩) hHeld ?_
              refine wpAnyH_take (i := 24) (oi := { dst := some 54, op := Go.Op.indexAddr 76 (Go.Operand.tmp 53) (Go.Operand.const (Go.Value.int Go.IntKind.i64 0)), type := 0, pos := "ref.go:198", after := #[{ on := 23, ground := Go.Ground.data }, { on := 2, ground := Go.Ground.guard }], guard := some (2, true) }) (v := .pointer (some ⟨lb, lo + n * 2, none⟩)) rfl (by kernel_rfl) (by kernel_rfl) (by kernel_rfl) (fun _ _ _ h => h) (.inl ⟨by kernel_rfl, fun w9 h9 => by
                clear hHeld h9
                go_simp⟩) hHeld ?_
              refine wpAnyH_take (i := 25) (oi := { dst := some 55, op := Go.Op.load 3 (Go.Operand.tmp 54), type := 3, pos := "ref.go:198", after := #[{ on := 24, ground := Go.Ground.data }, { on := 2, ground := Go.Ground.guard }], guard := some (2, true) }) (v := .int .i64 a) rfl (by kernel_rfl) (by kernel_rfl) (by kernel_rfl) (fun _ _ _ h => h) (.inl ⟨by kernel_rfl, fun w9 h9 => by
                clear hHeld
                have d0 := (h9.cell (p := ⟨lb, lo + n * 2, none⟩) hzq).trans q0
                clear h9
                go_simp⟩) hHeld ?_
              refine wpAnyH_take (i := 26) (oi := { dst := some 56, op := Go.Op.indexAddr 26 (Go.Operand.tmp 50) (Go.Operand.tmp 55), type := 0, pos := "ref.go:198", after := #[{ on := 20, ground := Go.Ground.data }, { on := 25, ground := Go.Ground.data }, { on := 2, ground := Go.Ground.guard }], guard := some (2, true) }) (v := .pointer (some ⟨pb, po + a, none⟩)) rfl (by kernel_rfl) (by kernel_rfl) (by kernel_rfl) (fun _ _ _ h => h) (.inl ⟨by kernel_rfl, fun w9 h9 => by
                clear hHeld h9
                go_simp⟩) hHeld ?_
              refine wpAnyH_take (i := 27) (oi := { dst := some 57, op := Go.Op.load 22 (Go.Operand.tmp 56), type := 22, pos := "ref.go:198", after := #[{ on := 26, ground := Go.Ground.data }, { on := 2, ground := Go.Ground.guard }], guard := some (2, true) }) (v := .slice (some ⟨rb, ro, none⟩) (gr P a).length (cq a)) rfl (by kernel_rfl) (by kernel_rfl) (by kernel_rfl) (fun _ _ _ h => h) (.inl ⟨by kernel_rfl, fun w9 h9 => by
                clear hHeld
                have d0 := (h9.cell (p := ⟨pb, po + a, none⟩) hzg).trans gq
                clear h9
                go_simp⟩) hHeld ?_
              refine takeU (i := 28) (some 58) (.slice (some ⟨lb, lo, none⟩) N lc) (by kernel_rfl) (by kernel_rfl) (by kernel_rfl) (by kernel_rfl) (by kernel_rfl) (fun _ => by kernel_rfl) (fun _ _ _ h => h) hHeld ?_
              refine takeU (i := 29) (some 59) (.int .i64 n) (by kernel_rfl) (by kernel_rfl) (by kernel_rfl) (by kernel_rfl) (by kernel_rfl) (fun _ => by kernel_rfl) (fun _ _ _ h => h) hHeld ?_
              refine wpAnyH_take (i := 30) (oi := { dst := some 60, op := Go.Op.indexAddr 36 (Go.Operand.tmp 58) (Go.Operand.tmp 59), type := 0, pos := "ref.go:198", after := #[{ on := 28, ground := Go.Ground.data }, { on := 29, ground := Go.Ground.data }, { on := 2, ground := Go.Ground.guard }], guard := some (2, true) }) (v := .pointer (some ⟨lb, lo + n * 2, none⟩)) rfl (by kernel_rfl) (by kernel_rfl) (by kernel_rfl) (fun _ _ _ h => h) (.inl ⟨by kernel_rfl, fun w9 h9 => by
                clear hHeld h9
                go_simp⟩) hHeld ?_
              refine wpAnyH_take (i := 31) (oi := { dst := some 61, op := Go.Op.indexAddr 76 (Go.Operand.tmp 60) (Go.Operand.const (Go.Value.int Go.IntKind.i64 1)), type := 0, pos := "ref.go:198", after := #[{ on := 30, ground := Go.Ground.data }, { on := 2, ground := Go.Ground.guard }], guard := some (2, true) }) (v := .pointer (some ⟨lb, lo + n * 2 + 1, none⟩)) rfl (by kernel_rfl) (by kernel_rfl) (by kernel_rfl) (fun _ _ _ h => h) (.inl ⟨by kernel_rfl, fun w9 h9 => by
                clear hHeld h9
                go_simp⟩) hHeld ?_
              refine wpAnyH_take (i := 32) (oi := { dst := some 62, op := Go.Op.load 3 (Go.Operand.tmp 61), type := 3, pos := "ref.go:198", after := #[{ on := 31, ground := Go.Ground.data }, { on := 2, ground := Go.Ground.guard }], guard := some (2, true) }) (v := .int .i64 b) rfl (by kernel_rfl) (by kernel_rfl) (by kernel_rfl) (fun _ _ _ h => h) (.inl ⟨by kernel_rfl, fun w9 h9 => by
                clear hHeld
                have d0 := (h9.cell (p := ⟨lb, lo + n * 2 + 1, none⟩) hzq).trans q1
                clear h9
                go_simp⟩) hHeld ?_
              refine wpAnyH_take (i := 33) (oi := { dst := some 63, op := Go.Op.indexAddr 22 (Go.Operand.tmp 57) (Go.Operand.tmp 62), type := 0, pos := "ref.go:198", after := #[{ on := 27, ground := Go.Ground.data }, { on := 32, ground := Go.Ground.data }, { on := 2, ground := Go.Ground.guard }], guard := some (2, true) }) (v := .pointer (some ⟨rb, ro + b, none⟩)) rfl (by kernel_rfl) (by kernel_rfl) (by kernel_rfl) (fun _ _ _ h => h) (.inl ⟨by kernel_rfl, fun w9 h9 => by
                clear hHeld h9
                go_simp⟩) hHeld ?_
              refine wpAnyH_take (i := 34) (oi := { dst := some 64, op := Go.Op.load 3 (Go.Operand.tmp 63), type := 3, pos := "ref.go:198", after := #[{ on := 33, ground := Go.Ground.data }, { on := 2, ground := Go.Ground.guard }], guard := some (2, true) }) (v := .int .i64 X.st) rfl (by kernel_rfl) (by kernel_rfl) (by kernel_rfl) (fun _ _ _ h => h) (.inl ⟨by kernel_rfl, fun w9 h9 => by
                clear hHeld
                have d0 := (h9.cell (p := ⟨rb, ro + b, none⟩) hzh).trans hq
                clear h9
                go_simp⟩) hHeld ?_
              refine wpAnyH_take (i := 35) (oi := { dst := some 65, op := Go.Op.binOp Go.BinOp.gtr 3 (Go.Operand.tmp 49) (Go.Operand.tmp 64) 3, type := 4, pos := "ref.go:198", after := #[{ on := 19, ground := Go.Ground.data }, { on := 34, ground := Go.Ground.data }, { on := 2, ground := Go.Ground.guard }], guard := some (2, true) }) (v := .bool cc) rfl (by kernel_rfl) (by kernel_rfl) (by kernel_rfl) (fun _ _ _ h => h) (.inl ⟨by kernel_rfl, fun w9 h9 => by
                clear hHeld h9
                go_simp⟩) hHeld ?_
              refine takeU (i := 36) (some 66) (.bool cc) (by kernel_rfl) (by kernel_rfl) (by kernel_rfl) (by kernel_rfl) (by kernel_rfl) (fun _ => by kernel_rfl) (fun _ _ _ h => h) hHeld ?_
              refine wpAnyH_done (by kernel_rfl) ?_ _
              try simp only [Act.put, List.setIfInBounds_toArray, List.set_cons_zero, List.set_cons_succ]
              go_wp2_with fail
              go_meet
              exact ⟨by first | rfl | rw [HCn.out], hHeld⟩
            · obtain rfl : j = 0 := by omega
              have HCn : Hid (cndT X.st E 0 = false) := Lib.hid rfl
              go_wp2_with fail
              refine wp_region_held_drew (S := fun w' => Below wk.heap.size wk w') (by kernel_rfl) ((Below.refl _ _).drew) (fun hHeld => ?_)
              refine takeU (i := 0) (some 30) (.int .i64 0) (by kernel_rfl) (by kernel_rfl) (by kernel_rfl) (by kernel_rfl) (by kernel_rfl) (fun _ => by kernel_rfl) (fun _ _ _ h => h) hHeld ?_
              refine wpAnyH_take (i := 1) (oi := { dst := some 31, op := Go.Op.binOp Go.BinOp.gtr 3 (Go.Operand.tmp 30) (Go.Operand.const (Go.Value.int Go.IntKind.i64 0)) 3, type := 4, pos := "ref.go:198", after := #[{ on := 0, ground := Go.Ground.data }], guard := none }) (v := .bool false) rfl (by kernel_rfl) (by kernel_rfl) (by kernel_rfl) (fun _ _ _ h => h) (.inl ⟨by kernel_rfl, fun w9 h9 => by
                clear hHeld h9
                go_simp⟩) hHeld ?_
              refine takeU (i := 2) (some 32) (.bool false) (by kernel_rfl) (by kernel_rfl) (by kernel_rfl) (by kernel_rfl) (by kernel_rfl) (fun _ => by kernel_rfl) (fun _ _ _ h => h) hHeld ?_
              refine skipU (i := 3) (some 33) (by kernel_rfl) (by kernel_rfl) (by kernel_rfl) (by kernel_rfl) (by kernel_rfl) (fun _ _ _ h => h) hHeld ?_
              refine skipU (i := 4) (some 34) (by kernel_rfl) (by kernel_rfl) (by kernel_rfl) (by kernel_rfl) (by kernel_rfl) (fun _ _ _ h => h) hHeld ?_
              refine skipU (i := 5) (some 35) (by kernel_rfl) (by kernel_rfl) (by kernel_rfl) (by kernel_rfl) (by kernel_rfl) (fun _ _ _ h => h) hHeld ?_
              refine skipU (i := 6) (some 36) (by kernel_rfl) (by kernel_rfl) (by kernel_rfl) (by kernel_rfl) (by kernel_rfl) (fun _ _ _ h => h) hHeld ?_
              refine skipU (i := 7) (some 37) (by kernel_rfl) (by kernel_rfl) (by kernel_rfl) (by kernel_rfl) (by kernel_rfl) (fun _ _ _ h => h) hHeld ?_
              refine skipU (i := 8) (some 38) (by kernel_rfl) (by kernel_rfl) (by kernel_rfl) (by kernel_rfl) (by kernel_rfl) (fun _ _ _ h => h) hHeld ?_
              refine skipU (i := 9) (some 39) (by kernel_rfl) (by kernel_rfl) (by kernel_rfl) (by kernel_rfl) (by kernel_rfl) (fun _ _ _ h => h) hHeld ?_
              refine skipU (i := 10) (some 40) (by kernel_rfl) (by kernel_rfl) (by kernel_rfl) (by kernel_rfl) (by kernel_rfl) (fun _ _ _ h => h) hHeld ?_
              refine skipU (i := 11) (some 41) (by kernel_rfl) (by kernel_rfl) (by kernel_rfl) (by kernel_rfl) (by kernel_rfl) (fun _ _ _ h => h) hHeld ?_
              refine skipU (i := 12) (some 42) (by kernel_rfl) (by kernel_rfl) (by kernel_rfl) (by kernel_rfl) (by kernel_rfl) (fun _ _ _ h => h) hHeld ?_
              refine skipU (i := 13) (some 43) (by kernel_rfl) (by kernel_rfl) (by kernel_rfl) (by kernel_rfl) (by kernel_rfl) (fun _ _ _ h => h) hHeld ?_
              refine skipU (i := 14) (some 44) (by kernel_rfl) (by kernel_rfl) (by kernel_rfl) (by kernel_rfl) (by kernel_rfl) (fun _ _ _ h => h) hHeld ?_
              refine skipU (i := 15) (some 45) (by kernel_rfl) (by kernel_rfl) (by kernel_rfl) (by kernel_rfl) (by kernel_rfl) (fun _ _ _ h => h) hHeld ?_
              refine skipU (i := 16) (some 46) (by kernel_rfl) (by kernel_rfl) (by kernel_rfl) (by kernel_rfl) (by kernel_rfl) (fun _ _ _ h => h) hHeld ?_
              refine skipU (i := 17) (some 47) (by kernel_rfl) (by kernel_rfl) (by kernel_rfl) (by kernel_rfl) (by kernel_rfl) (fun _ _ _ h => h) hHeld ?_
              refine skipU (i := 18) (some 48) (by kernel_rfl) (by kernel_rfl) (by kernel_rfl) (by kernel_rfl) (by kernel_rfl) (fun _ _ _ h => h) hHeld ?_
              refine skipU (i := 19) (some 49) (by kernel_rfl) (by kernel_rfl) (by kernel_rfl) (by kernel_rfl) (by kernel_rfl) (fun _ _ _ h => h) hHeld ?_
              refine skipU (i := 20) (some 50) (by kernel_rfl) (by kernel_rfl) (by kernel_rfl) (by kernel_rfl) (by kernel_rfl) (fun _ _ _ h => h) hHeld ?_
              refine skipU (i := 21) (some 51) (by kernel_rfl) (by kernel_rfl) (by kernel_rfl) (by kernel_rfl) (by kernel_rfl) (fun _ _ _ h => h) hHeld ?_
              refine skipU (i := 22) (some 52) (by kernel_rfl) (by kernel_rfl) (by kernel_rfl) (by kernel_rfl) (by kernel_rfl) (fun _ _ _ h => h) hHeld ?_
              refine skipU (i := 23) (some 53) (by kernel_rfl) (by kernel_rfl) (by kernel_rfl) (by kernel_rfl) (by kernel_rfl) (fun _ _ _ h => h) hHeld ?_
              refine skipU (i := 24) (some 54) (by kernel_rfl) (by kernel_rfl) (by kernel_rfl) (by kernel_rfl) (by kernel_rfl) (fun _ _ _ h => h) hHeld ?_
              refine skipU (i := 25) (some 55) (by kernel_rfl) (by kernel_rfl) (by kernel_rfl) (by kernel_rfl) (by kernel_rfl) (fun _ _ _ h => h) hHeld ?_
              refine skipU (i := 26) (some 56) (by kernel_rfl) (by kernel_rfl) (by kernel_rfl) (by kernel_rfl) (by kernel_rfl) (fun _ _ _ h => h) hHeld ?_
              refine skipU (i := 27) (some 57) (by kernel_rfl) (by kernel_rfl) (by kernel_rfl) (by kernel_rfl) (by kernel_rfl) (fun _ _ _ h => h) hHeld ?_
              refine skipU (i := 28) (some 58) (by kernel_rfl) (by kernel_rfl) (by kernel_rfl) (by kernel_rfl) (by kernel_rfl) (fun _ _ _ h => h) hHeld ?_
              refine skipU (i := 29) (some 59) (by kernel_rfl) (by kernel_rfl) (by kernel_rfl) (by kernel_rfl) (by kernel_rfl) (fun _ _ _ h => h) hHeld ?_
              refine skipU (i := 30) (some 60) (by kernel_rfl) (by kernel_rfl) (by kernel_rfl) (by kernel_rfl) (by kernel_rfl) (fun _ _ _ h => h) hHeld ?_
              refine skipU (i := 31) (some 61) (by kernel_rfl) (by kernel_rfl) (by kernel_rfl) (by kernel_rfl) (by kernel_rfl) (fun _ _ _ h => h) hHeld ?_
              refine skipU (i := 32) (some 62) (by kernel_rfl) (by kernel_rfl) (by kernel_rfl) (by kernel_rfl) (by kernel_rfl) (fun _ _ _ h => h) hHeld ?_
              refine skipU (i := 33) (some 63) (by kernel_rfl) (by kernel_rfl) (by kernel_rfl) (by kernel_rfl) (by kernel_rfl) (fun _ _ _ h => h) hHeld ?_
              refine skipU (i := 34) (some 64) (by kernel_rfl) (by kernel_rfl) (by kernel_rfl) (by kernel_rfl) (by kernel_rfl) (fun _ _ _ h => h) hHeld ?_
              refine skipU (i := 35) (some 65) (by kernel_rfl) (by kernel_rfl) (by kernel_rfl) (by kernel_rfl) (by kernel_rfl) (fun _ _ _ h => h) hHeld ?_
              refine takeU (i := 36) (some 66) (.bool false) (by kernel_rfl) (by kernel_rfl) (by kernel_rfl) (by kernel_rfl) (by kernel_rfl) (fun _ => by kernel_rfl) (fun _ _ _ h => h) hHeld ?_
              refine wpAnyH_done (by kernel_rfl) ?_ _
              try simp only [Act.put, List.setIfInBounds_toArray, List.set_cons_zero, List.set_cons_succ]
              go_wp2_with fail
              go_meet
              exact ⟨by first | rfl | rw [HCn.out], hHeld⟩
          case rest =>
            obtain ⟨rfl, hbc⟩ := hcut
            obtain ⟨ws, rfl⟩ : ∃ ws : World, ws = wc := ⟨_, rfl⟩
            have hbjs := hbk.trans (hbc.mono hbk.size)
            rcases Bool.eq_false_or_eq_true (cndT X.st E j) with hcn | hcn
            · have h1 := plcT_true hcn
              have HPn : Hid (plcT X.st E E.length = plcT X.st E (j - 1)) := Lib.hid (by rw [HPj.out, h1.2])
              have hj1 := h1.1
              have hji : ((j - 1 : Nat) : Int) = (j : Int) - 1 := by omega
              have HJI := Lib.hid hji
              clear h1 hji
              rw [hcn]
              go_wp2_with fail
              go_roundw
              case rel => exact ⟨j - 1, by omega, by rw [HJI.out], HPn, hbjs⟩
              case measure => simp [intOf]; omega
            · have h1 := plcT_false hcn
              obtain ⟨E1, hE1⟩ : ∃ E1, insT X E = E1 := ⟨_, rfl⟩
              have HN2 : Hid (E1 = E.take j ++ X :: E.drop j) := Lib.hid (by rw [← hE1]; unfold insT; rw [HPj.out, h1])
              rw [hE1] at HNX
              have HRs := Lib.hid (owns_belowI HRowk.out hbc)
              have q0 := cell_below q0 hbc
              have q1 := cell_below q1 hbc
              rw [← HXj.out] at q0
              rw [← HXn.out] at q1
              have hzq := block_lt q0
              have hsB : wL.heap.size ≤ ws.heap.size := Nat.le_trans HLJ.out.size hbjs.size
              have hbks := HLJ.out.trans (hbjs.mono HLJ.out.size)
              clear h1 HPj HRowk HRowJ hE1 HMEn Q0 Q1 GQ HQ HRJ HGJ
              rw [hcn]
              clear hcn
              go_upto_region 10 with (fail)
              rcases HRs.out.2 with ⟨h1, hE0⟩ | ⟨g, c2, cur, h1, hg1, hg2, hnc, hcm, _⟩
              · obtain ⟨rfl, hc0⟩ : av = none ∧ cv = 0 := by simp at h1; exact ⟨h1.1, h1.2.2⟩
                have HE0 := Lib.hid hE0
                have hj0 : j = 0 := by omega
                clear h1 hE0 hc0
                subst hj0
                refine wp_region_held_drew (S := fun w' => Below ws.heap.size ws w') (by kernel_rfl) ((Below.refl _ _).drew) (fun hHeld => ?_)
                refine takeU (i := 0) (some 69) (.slice none E.length cv) (by kernel_rfl) (by kernel_rfl) (by kernel_rfl) (by kernel_rfl) (by kernel_rfl) (fun _ => by kernel_rfl) (fun _ _ _ h => h) hHeld ?_
                refine takeU (i := 1) (some 70) (.int .i64 0) (by kernel_rfl) (by kernel_rfl) (by kernel_rfl) (by kernel_rfl) (by kernel_rfl) (fun _ => by kernel_rfl) (fun _ _ _ h => h) hHeld ?_
                refine takeU (i := 2) (some 71) (.int .i64 0) (by kernel_rfl) (by kernel_rfl) (by kernel_rfl) (by kernel_rfl) (by kernel_rfl) (fun _ => by kernel_rfl) (fun _ _ _ h => h) hHeld ?_
                refine wpAnyH_take (i := 3) (oi := { dst := some 72, op := Go.Op.slice 36 (Go.Operand.tmp 69) none (some (Go.Operand.tmp 70)) (some (Go.Operand.tmp 71)), type := 36, pos := "ref.go:201", after := #[{ on := 0, ground := Go.Ground.data }, { on := 1, ground := Go.Ground.data }, { on := 2, ground := Go.Ground.data }], guard := none }) (v := .slice none 0 0) rfl (by kernel_rfl) (by kernel_rfl) (by kernel_rfl) (fun _ _ _ h => h) (.inl ⟨by kernel_rfl, fun w9 h9 => by
                  clear hHeld h9
                  go_simp <;> (intro hcj; exfalso; omega)⟩) hHeld ?_
                refine takeU (i := 4) (some 73) (.slice (some ⟨lb, lo, none⟩) N lc) (by kernel_rfl) (by kernel_rfl) (by kernel_rfl) (by kernel_rfl) (by kernel_rfl) (fun _ => by kernel_rfl) (fun _ _ _ h => h) hHeld ?_
                refine takeU (i := 5) (some 74) (.int .i64 n) (by kernel_rfl) (by kernel_rfl) (by kernel_rfl) (by kernel_rfl) (by kernel_rfl) (fun _ => by kernel_rfl) (fun _ _ _ h => h) hHeld ?_
                refine wpAnyH_take (i := 6) (oi := { dst := some 75, op := Go.Op.indexAddr 36 (Go.Operand.tmp 73) (Go.Operand.tmp 74), type := 0, pos := "ref.go:201", after := #[{ on := 4, ground := Go.Ground.data }, { on := 5, ground := Go.Ground.data }], guard := none }) (v := .pointer (some ⟨lb, lo + n * 2, none⟩)) rfl (by kernel_rfl) (by kernel_rfl) (by kernel_rfl) (fun _ _ _ h => h) (.inl ⟨by kernel_rfl, fun w9 h9 => by
                  clear hHeld h9
                  go_simp⟩) hHeld ?_
                refine wpAnyH_take (i := 7) (oi := { dst := some 76, op := Go.Op.load 76 (Go.Operand.tmp 75), type := 76, pos := "ref.go:201", after := #[{ on := 6, ground := Go.Ground.data }], guard := none }) (v := .agg #[.int .i64 X.j, .int .i64 X.n]) rfl (by kernel_rfl) (by kernel_rfl) (by kernel_rfl) (fun _ _ _ h => h) (.inl ⟨by kernel_rfl, fun w9 h9 => by
                  clear hHeld
                  have d0 := (h9.cell (p := ⟨lb, lo + n * 2, none⟩) hzq).trans q0
                  have d1 := (h9.cell (p := ⟨lb, lo + n * 2 + 1, none⟩) hzq).trans q1
                  clear h9
                  go_simp⟩) hHeld ?_
                refine takeU (i := 9) (some 78) (.slice none E.length cv) (by kernel_rfl) (by kernel_rfl) (by kernel_rfl) (by kernel_rfl) (by kernel_rfl) (fun _ => by kernel_rfl) (fun _ _ _ h => h) hHeld ?_
                refine takeU (i := 10) (some 79) (.int .i64 0) (by kernel_rfl) (by kernel_rfl) (by kernel_rfl) (by kernel_rfl) (by kernel_rfl) (fun _ => by kernel_rfl) (fun _ _ _ h => h) hHeld ?_
                refine wpAnyH_take (i := 11) (oi := { dst := some 80, op := Go.Op.slice 36 (Go.Operand.tmp 78) (some (Go.Operand.tmp 79)) none none, type := 36, pos := "ref.go:201", after := #[{ on := 9, ground := Go.Ground.data }, { on := 10, ground := Go.Ground.data }], guard := none }) (v := .slice none E.length cv) rfl (by kernel_rfl) (by kernel_rfl) (by kernel_rfl) (fun _ _ _ h => h) (.inl ⟨by kernel_rfl, fun w9 h9 => by
                  clear hHeld h9
                  go_simp <;> (intro hcj; exfalso; omega)⟩) hHeld ?_
                try simp only [Act.put, List.setIfInBounds_toArray, List.set_cons_zero, List.set_cons_succ]
                refine wpAnyH_ready (rs := [8]) (by kernel_rfl) (by simp) ?_
                refine AllReadyH.cons (o := { dst := some 77, op := Go.Op.buildSlice 36 1 #[(0, Go.Operand.tmp 76)], type := 36, pos := "ref.go:201", after := #[{ on := 7, ground := Go.Ground.data }], guard := none }) rfl (fun K hK => ?_) AllReadyH.nil
                go_simp
                refine hK.out _ _ (hHeld.alloc (Nat.le_refl _) _) (fun hHeld => ?_)
                clear hK K
                try simp only [Act.put, List.setIfInBounds_toArray, List.set_cons_zero, List.set_cons_succ]
                try simp only [Act.put, List.setIfInBounds_toArray, List.set_cons_zero, List.set_cons_succ]
                refine wpAnyH_ready (rs := [12]) (by kernel_rfl) (by simp) ?_
                refine AllReadyH.cons (o := { dst := some 81, op := Go.Op.call { callee := Go.Callee.builtin Go.Builtin.append, args := #[Go.Operand.tmp 77, Go.Operand.tmp 80], argTypes := #[36, 36] }, type := 36, pos := "ref.go:201", after := #[{ on := 8, ground := Go.Ground.data }, { on := 11, ground := Go.Ground.data }], guard := none }) rfl (fun K hK => ?_) AllReadyH.nil
                have hown0 : (ws.drew.alloc (.cells #[.int .i64 X.j, .int .i64 X.n] 76)).ownsRow ws.heap.size 76 2 (.slice (some ⟨ws.heap.size, 0, none⟩) 1 1) 1 [.int .i64 X.j, .int .i64 X.n] := ⟨rfl, .inr ⟨ws.heap.size, 1, #[.int .i64 X.j, .int .i64 X.n], rfl, Nat.le_refl _, heap_alloc_new _ _, Nat.le_refl 1, by decide, rfl, rfl⟩⟩
                refine stepZ (by rfl) _ _ 36 (by rfl) ws.heap.size 76 n0 2 Try.underlying36 hi (.slice (some ⟨ws.heap.size, 0, none⟩) 1 1) 1 [.int .i64 X.j, .int .i64 X.n] (by rfl) hown0 none E.length cv (by rfl) (by have := HE0.out; omega) ?_
                refine hK.out _ _ hHeld (fun hHeld => ?_)
                clear hK K
                try simp only [Act.put, List.setIfInBounds_toArray, List.set_cons_zero, List.set_cons_succ]
                try simp only [Act.put, List.setIfInBounds_toArray, List.set_cons_zero, List.set_cons_succ]
                refine wpAnyH_ready (rs := [13]) (by kernel_rfl) (by simp) ?_
                refine AllReadyH.cons (o := { dst := some 82, op := Go.Op.call { callee := Go.Callee.builtin Go.Builtin.append, args := #[Go.Operand.tmp 72, Go.Operand.tmp 81], argTypes := #[36, 36] }, type := 36, pos := "ref.go:201", after := #[{ on := 3, ground := Go.Ground.data }, { on := 12, ground := Go.Ground.data }, { on := 12, ground := Go.Ground.chain }], guard := none }) rfl (fun K hK => ?_) AllReadyH.nil
                refine step_append_grows (by rfl) _ _ 36 (by rfl) 76 n0 _ 2 16 Try.underlying36 hi hz0 hz1 hz2 rfl (by decide) none 0 0 (clJ (E.take 0)) (by rfl) (fun _ => ⟨rfl, rfl⟩) (by rw [clJ_len, List.length_take]; omega) (fun b hb => by cases hb) ⟨ws.heap.size, 0, none⟩ 1 1 [.int .i64 X.j, .int .i64 X.n] (by rfl) hown0.1 (fun j9 u hu => by
                  have hjl : j9 < 1 * 2 := by rw [← hown0.1]; exact (List.getElem?_eq_some_iff.1 hu).1
                  rw [Addr.add_lit, Nat.zero_add]; exact (World.ownsRow.cellAt hown0 j9 hjl).trans hu) (by exact clJ_one [X]) (by omega) (by unfold maxLen; omega) (by omega) ?_
                intro v7 w7 hown7 hgrow7
                obtain ⟨g7, c7, rfl, hg7, hl7⟩ := World.ownsRow.form hown7 (by omega)
                have HO7 := Lib.hid (owns_baseI hown7 (base' := wL.heap.size) (Nat.le_trans hsB hHeld.size))
                refine hK.out _ _ (hHeld.grown hgrow7 hHeld.size (fun z hz => by cases hz)) (fun hHeld => ?_)
                clear hK K hown7 hgrow7
                try simp only [Act.put, List.setIfInBounds_toArray, List.set_cons_zero, List.set_cons_succ]
                refine takeU (i := 14) (some 7) (.slice (some ⟨g7, 0, none⟩) (0 + 1) c7) (by kernel_rfl) (by kernel_rfl) (by kernel_rfl) (by kernel_rfl) (by kernel_rfl) (fun _ => by kernel_rfl) (fun _ _ _ h => h) hHeld ?_
                refine wpAnyH_done (by kernel_rfl) ?_ _
                try simp only [Act.put, List.setIfInBounds_toArray, List.set_cons_zero, List.set_cons_succ]
                have HL7 : Hid (0 + 1 = E1.length) := Lib.hid (by have := HE0.out; rw [HN2.out, List.length_append, List.length_cons, List.length_take, List.length_drop]; omega)
                have HC7 : Hid (clJ (E.take 0) ++ [.int .i64 X.j, .int .i64 X.n] = clJ E1) := Lib.hid (by have := HE0.out; rw [HN2.out, clJ_app, List.drop_of_length_le (by omega)]; rfl)
                rw [HL7.out, HC7.out] at HO7
                have hbz := hbks.trans (hHeld.mono hbks.size)
                go_wp2_with fail
                go_roundw
                case rel => exact ⟨n + 1, by omega, by go_num, ⟨some ⟨g7, 0, none⟩, c7, by rw [HNX.out, HL7.out]⟩, Lib.hid (by rw [HNX.out]; first | exact HO7.out | (rw [HL7.out]; exact HO7.out)), hbz⟩
                case measure => first | (simp [intOf]; done) | (simp [intOf]; omega)
              · obtain ⟨rfl, rfl⟩ : av = some ⟨g, 0, none⟩ ∧ cv = c2 := by simpa using h1
                have hgz : g < ws.heap.size := (Array.getElem?_eq_some_iff.1 hg2).1
                have hcc : E.length ≤ cv ∧ cv ≤ 9223372036854775807 := by
                  rcases HRs.out.2 with ⟨h1, h2⟩ | ⟨g2, c2, cur, h1, hg1, hg2, hnc, hcm, _⟩
                  · cases h1
                  · obtain ⟨rfl, rfl⟩ : g = g2 ∧ cv = c2 := by simpa using h1
                    unfold maxLen at hcm; omega
                clear h1 hg1 hg2 hnc hcm
                by_cases hj0 : j = 0
                · subst hj0
                  by_cases hE0 : E.length = 0
                  · have HE0 := Lib.hid hE0
                    clear hE0
                    refine wp_region_held_drew (S := fun w' => Below ws.heap.size ws w') (by kernel_rfl) ((Below.refl _ _).drew) (fun hHeld => ?_)
                    refine takeU (i := 0) (some 69) (.slice (some ⟨g, 0, none⟩) E.length cv) (by kernel_rfl) (by kernel_rfl) (by kernel_rfl) (by kernel_rfl) (by kernel_rfl) (fun _ => by kernel_rfl) (fun _ _ _ h => h) hHeld ?_
                    refine takeU (i := 1) (some 70) (.int .i64 0) (by kernel_rfl) (by kernel_rfl) (by kernel_rfl) (by kernel_rfl) (by kernel_rfl) (fun _ => by kernel_rfl) (fun _ _ _ h => h) hHeld ?_
                    refine takeU (i := 2) (some 71) (.int .i64 0) (by kernel_rfl) (by kernel_rfl) (by kernel_rfl) (by kernel_rfl) (by kernel_rfl) (fun _ => by kernel_rfl) (fun _ _ _ h => h) hHeld ?_
                    refine wpAnyH_take (i := 3) (oi := { dst := some 72, op := Go.Op.slice 36 (Go.Operand.tmp 69) none (some (Go.Operand.tmp 70)) (some (Go.Operand.tmp 71)), type := 36, pos := "ref.go:201", after := #[{ on := 0, ground := Go.Ground.data }, { on := 1, ground := Go.Ground.data }, { on := 2, ground := Go.Ground.data }], guard := none }) (v := .slice (some ⟨g, 0, none⟩) 0 0) rfl (by kernel_rfl) (by kernel_rfl) (by kernel_rfl) (fun _ _ _ h => h) (.inl ⟨by kernel_rfl, fun w9 h9 => by
                      clear hHeld h9
                      go_simp <;> (intro hcj; exfalso; omega)⟩) hHeld ?_
                    refine takeU (i := 4) (some 73) (.slice (some ⟨lb, lo, none⟩) N lc) (by kernel_rfl) (by kernel_rfl) (by kernel_rfl) (by kernel_rfl) (by kernel_rfl) (fun _ => by kernel_rfl) (fun _ _ _ h => h) hHeld ?_
                    refine takeU (i := 5) (some 74) (.int .i64 n) (by kernel_rfl) (by kernel_rfl) (by kernel_rfl) (by kernel_rfl) (by kernel_rfl) (fun _ => by kernel_rfl) (fun _ _ _ h => h) hHeld ?_
                    refine wpAnyH_take (i := 6) (oi := { dst := some 75, op := Go.Op.indexAddr 36 (Go.Operand.tmp 73) (Go.Operand.tmp 74), type := 0, pos := "ref.go:201", after := #[{ on := 4, ground := Go.Ground.data }, { on := 5, ground := Go.Ground.data }], guard := none }) (v := .pointer (some ⟨lb, lo + n * 2, none⟩)) rfl (by kernel_rfl) (by kernel_rfl) (by kernel_rfl) (fun _ _ _ h => h) (.inl ⟨by kernel_rfl, fun w9 h9 => by
                      clear hHeld h9
                      go_simp⟩) hHeld ?_
                    refine wpAnyH_take (i := 7) (oi := { dst := some 76, op := Go.Op.load 76 (Go.Operand.tmp 75), type := 76, pos := "ref.go:201", after := #[{ on := 6, ground := Go.Ground.data }], guard := none }) (v := .agg #[.int .i64 X.j, .int .i64 X.n]) rfl (by kernel_rfl) (by kernel_rfl) (by kernel_rfl) (fun _ _ _ h => h) (.inl ⟨by kernel_rfl, fun w9 h9 => by
                      clear hHeld
                      have d0 := (h9.cell (p := ⟨lb, lo + n * 2, none⟩) hzq).trans q0
                      have d1 := (h9.cell (p := ⟨lb, lo + n * 2 + 1, none⟩) hzq).trans q1
                      clear h9
                      go_simp⟩) hHeld ?_
                    refine takeU (i := 9) (some 78) (.slice (some ⟨g, 0, none⟩) E.length cv) (by kernel_rfl) (by kernel_rfl) (by kernel_rfl) (by kernel_rfl) (by kernel_rfl) (fun _ => by kernel_rfl) (fun _ _ _ h => h) hHeld ?_
                    refine takeU (i := 10) (some 79) (.int .i64 0) (by kernel_rfl) (by kernel_rfl) (by kernel_rfl) (by kernel_rfl) (by kernel_rfl) (fun _ => by kernel_rfl) (fun _ _ _ h => h) hHeld ?_
                    refine wpAnyH_take (i := 11) (oi := { dst := some 80, op := Go.Op.slice 36 (Go.Operand.tmp 78) (some (Go.Operand.tmp 79)) none none, type := 36, pos := "ref.go:201", after := #[{ on := 9, ground := Go.Ground.data }, { on := 10, ground := Go.Ground.data }], guard := none }) (v := .slice (some ⟨g, 0, none⟩) E.length cv) rfl (by kernel_rfl) (by kernel_rfl) (by kernel_rfl) (fun _ _ _ h => h) (.inl ⟨by kernel_rfl, fun w9 h9 => by
                      clear hHeld h9
                      go_simp <;> (intro hcj; exfalso; omega)⟩) hHeld ?_
                    try simp only [Act.put, List.setIfInBounds_toArray, List.set_cons_zero, List.set_cons_succ]
                    refine wpAnyH_ready (rs := [8]) (by kernel_rfl) (by simp) ?_
                    refine AllReadyH.cons (o := { dst := some 77, op := Go.Op.buildSlice 36 1 #[(0, Go.Operand.tmp 76)], type := 36, pos := "ref.go:201", after := #[{ on := 7, ground := Go.Ground.data }], guard := none }) rfl (fun K hK => ?_) AllReadyH.nil
                    go_simp
                    refine hK.out _ _ (hHeld.alloc (Nat.le_refl _) _) (fun hHeld => ?_)
                    clear hK K
                    try simp only [Act.put, List.setIfInBounds_toArray, List.set_cons_zero, List.set_cons_succ]
                    try simp only [Act.put, List.setIfInBounds_toArray, List.set_cons_zero, List.set_cons_succ]
                    refine wpAnyH_ready (rs := [12]) (by kernel_rfl) (by simp) ?_
                    refine AllReadyH.cons (o := { dst := some 81, op := Go.Op.call { callee := Go.Callee.builtin Go.Builtin.append, args := #[Go.Operand.tmp 77, Go.Operand.tmp 80], argTypes := #[36, 36] }, type := 36, pos := "ref.go:201", after := #[{ on := 8, ground := Go.Ground.data }, { on := 11, ground := Go.Ground.data }], guard := none }) rfl (fun K hK => ?_) AllReadyH.nil
                    have hown0 : (ws.drew.alloc (.cells #[.int .i64 X.j, .int .i64 X.n] 76)).ownsRow ws.heap.size 76 2 (.slice (some ⟨ws.heap.size, 0, none⟩) 1 1) 1 [.int .i64 X.j, .int .i64 X.n] := ⟨rfl, .inr ⟨ws.heap.size, 1, #[.int .i64 X.j, .int .i64 X.n], rfl, Nat.le_refl _, heap_alloc_new _ _, Nat.le_refl 1, by decide, rfl, rfl⟩⟩
                    refine stepZ (by rfl) _ _ 36 (by rfl) ws.heap.size 76 n0 2 Try.underlying36 hi (.slice (some ⟨ws.heap.size, 0, none⟩) 1 1) 1 [.int .i64 X.j, .int .i64 X.n] (by rfl) hown0 (some ⟨g, 0, none⟩) E.length cv (by rfl) (by have := HE0.out; omega) ?_
                    refine hK.out _ _ hHeld (fun hHeld => ?_)
                    clear hK K
                    try simp only [Act.put, List.setIfInBounds_toArray, List.set_cons_zero, List.set_cons_succ]
                    try simp only [Act.put, List.setIfInBounds_toArray, List.set_cons_zero, List.set_cons_succ]
                    refine wpAnyH_ready (rs := [13]) (by kernel_rfl) (by simp) ?_
                    refine AllReadyH.cons (o := { dst := some 82, op := Go.Op.call { callee := Go.Callee.builtin Go.Builtin.append, args := #[Go.Operand.tmp 72, Go.Operand.tmp 81], argTypes := #[36, 36] }, type := 36, pos := "ref.go:201", after := #[{ on := 3, ground := Go.Ground.data }, { on := 12, ground := Go.Ground.data }, { on := 12, ground := Go.Ground.chain }], guard := none }) rfl (fun K hK => ?_) AllReadyH.nil
                    refine step_append_grows (by rfl) _ _ 36 (by rfl) 76 n0 _ 2 16 Try.underlying36 hi hz0 hz1 hz2 rfl (by decide) (some ⟨g, 0, none⟩) 0 0 (clJ (E.take 0)) (by rfl) (fun e => by cases e) (by rw [clJ_len, List.length_take]; omega) (fun b hb j9 u hu => by simp [clJ] at hu) ⟨ws.heap.size, 0, none⟩ 1 1 [.int .i64 X.j, .int .i64 X.n] (by rfl) hown0.1 (fun j9 u hu => by
                      have hjl : j9 < 1 * 2 := by rw [← hown0.1]; exact (List.getElem?_eq_some_iff.1 hu).1
                      rw [Addr.add_lit, Nat.zero_add]; exact (World.ownsRow.cellAt hown0 j9 hjl).trans hu) (by exact clJ_one [X]) (by omega) (by unfold maxLen; omega) (by omega) ?_
                    intro v7 w7 hown7 hgrow7
                    obtain ⟨g7, c7, rfl, hg7, hl7⟩ := World.ownsRow.form hown7 (by omega)
                    have HO7 := Lib.hid (owns_baseI hown7 (base' := wL.heap.size) (Nat.le_trans hsB hHeld.size))
                    refine hK.out _ _ (hHeld.grown hgrow7 hHeld.size (fun z hz => by cases hz)) (fun hHeld => ?_)
                    clear hK K hown7 hgrow7
                    try simp only [Act.put, List.setIfInBounds_toArray, List.set_cons_zero, List.set_cons_succ]
                    refine takeU (i := 14) (some 7) (.slice (some ⟨g7, 0, none⟩) (0 + 1) c7) (by kernel_rfl) (by kernel_rfl) (by kernel_rfl) (by kernel_rfl) (by kernel_rfl) (fun _ => by kernel_rfl) (fun _ _ _ h => h) hHeld ?_
                    refine wpAnyH_done (by kernel_rfl) ?_ _
                    try simp only [Act.put, List.setIfInBounds_toArray, List.set_cons_zero, List.set_cons_succ]
                    have HL7 : Hid (0 + 1 = E1.length) := Lib.hid (by have := HE0.out; rw [HN2.out, List.length_append, List.length_cons, List.length_take, List.length_drop]; omega)
                    have HC7 : Hid (clJ (E.take 0) ++ [.int .i64 X.j, .int .i64 X.n] = clJ E1) := Lib.hid (by have := HE0.out; rw [HN2.out, clJ_app, List.drop_of_length_le (by omega)]; rfl)
                    rw [HL7.out, HC7.out] at HO7
                    have hbz := hbks.trans (hHeld.mono hbks.size)
                    go_wp2_with fail
                    go_roundw
                    case rel => exact ⟨n + 1, by omega, by go_num, ⟨some ⟨g7, 0, none⟩, c7, by rw [HNX.out, HL7.out]⟩, Lib.hid (by rw [HNX.out]; first | exact HO7.out | (rw [HL7.out]; exact HO7.out)), hbz⟩
                    case measure => first | (simp [intOf]; done) | (simp [intOf]; omega)
                  · have HE0 := Lib.hid hE0
                    clear hE0
                    refine wp_region_held_drew (S := fun w' => Below ws.heap.size ws w') (by kernel_rfl) ((Below.refl _ _).drew) (fun hHeld => ?_)
                    refine takeU (i := 0) (some 69) (.slice (some ⟨g, 0, none⟩) E.length cv) (by kernel_rfl) (by kernel_rfl) (by kernel_rfl) (by kernel_rfl) (by kernel_rfl) (fun _ => by kernel_rfl) (fun _ _ _ h => h) hHeld ?_
                    refine takeU (i := 1) (some 70) (.int .i64 0) (by kernel_rfl) (by kernel_rfl) (by kernel_rfl) (by kernel_rfl) (by kernel_rfl) (fun _ => by kernel_rfl) (fun _ _ _ h => h) hHeld ?_
                    refine takeU (i := 2) (some 71) (.int .i64 0) (by kernel_rfl) (by kernel_rfl) (by kernel_rfl) (by kernel_rfl) (by kernel_rfl) (fun _ => by kernel_rfl) (fun _ _ _ h => h) hHeld ?_
                    refine wpAnyH_take (i := 3) (oi := { dst := some 72, op := Go.Op.slice 36 (Go.Operand.tmp 69) none (some (Go.Operand.tmp 70)) (some (Go.Operand.tmp 71)), type := 36, pos := "ref.go:201", after := #[{ on := 0, ground := Go.Ground.data }, { on := 1, ground := Go.Ground.data }, { on := 2, ground := Go.Ground.data }], guard := none }) (v := .slice (some ⟨g, 0, none⟩) 0 0) rfl (by kernel_rfl) (by kernel_rfl) (by kernel_rfl) (fun _ _ _ h => h) (.inl ⟨by kernel_rfl, fun w9 h9 => by
                      clear hHeld h9
                      go_simp <;> (intro hcj; exfalso; omega)⟩) hHeld ?_
                    refine takeU (i := 4) (some 73) (.slice (some ⟨lb, lo, none⟩) N lc) (by kernel_rfl) (by kernel_rfl) (by kernel_rfl) (by kernel_rfl) (by kernel_rfl) (fun _ => by kernel_rfl) (fun _ _ _ h => h) hHeld ?_
                    refine takeU (i := 5) (some 74) (.int .i64 n) (by kernel_rfl) (by kernel_rfl) (by kernel_rfl) (by kernel_rfl) (by kernel_rfl) (fun _ => by kernel_rfl) (fun _ _ _ h => h) hHeld ?_
                    refine wpAnyH_take (i := 6) (oi := { dst := some 75, op := Go.Op.indexAddr 36 (Go.Operand.tmp 73) (Go.Operand.tmp 74), type := 0, pos := "ref.go:201", after := #[{ on := 4, ground := Go.Ground.data }, { on := 5, ground := Go.Ground.data }], guard := none }) (v := .pointer (some ⟨lb, lo + n * 2, none⟩)) rfl (by kernel_rfl) (by kernel_rfl) (by kernel_rfl) (fun _ _ _ h => h) (.inl ⟨by kernel_rfl, fun w9 h9 => by
                      clear hHeld h9
                      go_simp⟩) hHeld ?_
                    refine wpAnyH_take (i := 7) (oi := { dst := some 76, op := Go.Op.load 76 (Go.Operand.tmp 75), type := 76, pos := "ref.go:201", after := #[{ on := 6, ground := Go.Ground.data }], guard := none }) (v := .agg #[.int .i64 X.j, .int .i64 X.n]) rfl (by kernel_rfl) (by kernel_rfl) (by kernel_rfl) (fun _ _ _ h => h) (.inl ⟨by kernel_rfl, fun w9 h9 => by
                      clear hHeld
                      have d0 := (h9.cell (p := ⟨lb, lo + n * 2, none⟩) hzq).trans q0
                      have d1 := (h9.cell (p := ⟨lb, lo + n * 2 + 1, none⟩) hzq).trans q1
                      clear h9
                      go_simp⟩) hHeld ?_
                    refine takeU (i := 9) (some 78) (.slice (some ⟨g, 0, none⟩) E.length cv) (by kernel_rfl) (by kernel_rfl) (by kernel_rfl) (by kernel_rfl) (by kernel_rfl) (fun _ => by kernel_rfl) (fun _ _ _ h => h) hHeld ?_
                    refine takeU (i := 10) (some 79) (.int .i64 0) (by kernel_rfl) (by kernel_rfl) (by kernel_rfl) (by kernel_rfl) (by kernel_rfl) (fun _ => by kernel_rfl) (fun _ _ _ h => h) hHeld ?_
                    refine wpAnyH_take (i := 11) (oi := { dst := some 80, op := Go.Op.slice 36 (Go.Operand.tmp 78) (some (Go.Operand.tmp 79)) none none, type := 36, pos := "ref.go:201", after := #[{ on := 9, ground := Go.Ground.data }, { on := 10, ground := Go.Ground.data }], guard := none }) (v := .slice (some ⟨g, 0, none⟩) E.length cv) rfl (by kernel_rfl) (by kernel_rfl) (by kernel_rfl) (fun _ _ _ h => h) (.inl ⟨by kernel_rfl, fun w9 h9 => by
                      clear hHeld h9
                      go_simp <;> (intro hcj; exfalso; omega)⟩) hHeld ?_
                    try simp only [Act.put, List.setIfInBounds_toArray, List.set_cons_zero, List.set_cons_succ]
                    refine wpAnyH_ready (rs := [8]) (by kernel_rfl) (by simp) ?_
                    refine AllReadyH.cons (o := { dst := some 77, op := Go.Op.buildSlice 36 1 #[(0, Go.Operand.tmp 76)], type := 36, pos := "ref.go:201", after := #[{ on := 7, ground := Go.Ground.data }], guard := none }) rfl (fun K hK => ?_) AllReadyH.nil
                    go_simp
                    refine hK.out _ _ (hHeld.alloc (Nat.le_refl _) _) (fun hHeld => ?_)
                    clear hK K
                    try simp only [Act.put, List.setIfInBounds_toArray, List.set_cons_zero, List.set_cons_succ]
                    try simp only [Act.put, List.setIfInBounds_toArray, List.set_cons_zero, List.set_cons_succ]
                    refine wpAnyH_ready (rs := [12]) (by kernel_rfl) (by simp) ?_
                    refine AllReadyH.cons (o := { dst := some 81, op := Go.Op.call { callee := Go.Callee.builtin Go.Builtin.append, args := #[Go.Operand.tmp 77, Go.Operand.tmp 80], argTypes := #[36, 36] }, type := 36, pos := "ref.go:201", after := #[{ on := 8, ground := Go.Ground.data }, { on := 11, ground := Go.Ground.data }], guard := none }) rfl (fun K hK => ?_) AllReadyH.nil
                    have hown0 : (ws.drew.alloc (.cells #[.int .i64 X.j, .int .i64 X.n] 76)).ownsRow ws.heap.size 76 2 (.slice (some ⟨ws.heap.size, 0, none⟩) 1 1) 1 [.int .i64 X.j, .int .i64 X.n] := ⟨rfl, .inr ⟨ws.heap.size, 1, #[.int .i64 X.j, .int .i64 X.n], rfl, Nat.le_refl _, heap_alloc_new _ _, Nat.le_refl 1, by decide, rfl, rfl⟩⟩
                    have hnw : ∀ (j9 : Nat) (u : Value), (clJ (E.drop 0))[j9]? = some u → (ws.drew.alloc (.cells #[.int .i64 X.j, .int .i64 X.n] 76)).cell? ((⟨g, 0, none⟩ : Addr).add j9) = some u := fun j9 u hu => by
                      have hjl : j9 < (E.length - 0) * 2 := by
                        have := (List.getElem?_eq_some_iff.1 hu).1
                        rw [clJ_len, List.length_drop] at this
                        exact this
                      rw [← clJ_drop, List.getElem?_drop] at hu
                      rw [Addr.add_lit]
                      refine (hHeld.cell (p := ⟨g, 0 + j9, none⟩) hgz).trans ?_
                      have h9 := World.ownsRow.cellAt HRs.out (0 * 2 + j9) (by have := HE0.out; omega)
                      rw [Nat.zero_mul] at h9 hu
                      exact h9.trans hu
                    refine step_append_lies _ (by rfl) _ _ _ (by rfl) ws.heap.size 76 n0 _ 2 16 Try.underlying36 hi hz0 hz1 hz2 rfl (by decide) (.slice (some ⟨ws.heap.size, 0, none⟩) 1 1) 1 [.int .i64 X.j, .int .i64 X.n] (by rfl) hown0 ⟨g, 0, none⟩ E.length cv (clJ (E.drop 0)) (by rfl) (by rw [clJ_len, List.length_drop] <;> rfl) hnw (clJ_one _) (by have := HE0.out; omega) (by unfold maxLen; omega) (by omega) (by simp) _ rfl ?_
                    intro g6 c6 w6 hown6 hgrow6 hat6 hlt6
                    refine hK.out _ _ (hHeld.grown hgrow6 (by simp) (fun z hz => owns_blockI hown0 hz)) (fun hHeld => ?_)
                    clear hK K hgrow6 hat6 hlt6 hnw
                    try simp only [Act.put, List.setIfInBounds_toArray, List.set_cons_zero, List.set_cons_succ]
                    try simp only [Act.put, List.setIfInBounds_toArray, List.set_cons_zero, List.set_cons_succ]
                    refine wpAnyH_ready (rs := [13]) (by kernel_rfl) (by simp) ?_
                    refine AllReadyH.cons (o := { dst := some 82, op := Go.Op.call { callee := Go.Callee.builtin Go.Builtin.append, args := #[Go.Operand.tmp 72, Go.Operand.tmp 81], argTypes := #[36, 36] }, type := 36, pos := "ref.go:201", after := #[{ on := 3, ground := Go.Ground.data }, { on := 12, ground := Go.Ground.data }, { on := 12, ground := Go.Ground.chain }], guard := none }) rfl (fun K hK => ?_) AllReadyH.nil
                    refine step_append_grows (by rfl) _ _ 36 (by rfl) 76 n0 _ 2 16 Try.underlying36 hi hz0 hz1 hz2 rfl (by decide) (some ⟨g, 0, none⟩) 0 0 (clJ (E.take 0)) (by rfl) (fun e => by cases e) (by rw [clJ_len, List.length_take]; omega) (fun b hb j9 u hu => by simp [clJ] at hu) ⟨g6, 0, none⟩ (1 + E.length) c6 ([.int .i64 X.j, .int .i64 X.n] ++ clJ (E.drop 0)) (by rfl) hown6.1 (fun j9 u hu => by
                      have hjl : j9 < (1 + E.length) * 2 := by rw [← hown6.1]; exact (List.getElem?_eq_some_iff.1 hu).1
                      rw [Addr.add_lit, Nat.zero_add]; exact (World.ownsRow.cellAt hown6 j9 hjl).trans hu) (by exact clJ_one (X :: E.drop 0)) (by omega) (by unfold maxLen; omega) (by omega) ?_
                    intro v7 w7 hown7 hgrow7
                    obtain ⟨g7, c7, rfl, hg7, hl7⟩ := World.ownsRow.form hown7 (by omega)
                    have HO7 := Lib.hid (owns_baseI hown7 (base' := wL.heap.size) (Nat.le_trans hsB hHeld.size))
                    refine hK.out _ _ (hHeld.grown hgrow7 hHeld.size (fun z hz => by cases hz)) (fun hHeld => ?_)
                    clear hK K hown7 hgrow7
                    try simp only [Act.put, List.setIfInBounds_toArray, List.set_cons_zero, List.set_cons_succ]
                    refine takeU (i := 14) (some 7) (.slice (some ⟨g7, 0, none⟩) (0 + (1 + E.length)) c7) (by kernel_rfl) (by kernel_rfl) (by kernel_rfl) (by kernel_rfl) (by kernel_rfl) (fun _ => by kernel_rfl) (fun _ _ _ h => h) hHeld ?_
                    refine wpAnyH_done (by kernel_rfl) ?_ _
                    try simp only [Act.put, List.setIfInBounds_toArray, List.set_cons_zero, List.set_cons_succ]
                    have HL7 : Hid (0 + (1 + E.length) = E1.length) := Lib.hid (by have := HE0.out; rw [HN2.out, List.length_append, List.length_cons, List.length_take, List.length_drop]; omega)
                    have HC7 : Hid (clJ (E.take 0) ++ ([.int .i64 X.j, .int .i64 X.n] ++ clJ (E.drop 0)) = clJ E1) := Lib.hid (by rw [HN2.out, clJ_app]; rfl)
                    rw [HL7.out, HC7.out] at HO7
                    have hbz := hbks.trans (hHeld.mono hbks.size)
                    go_wp2_with fail
                    go_roundw
                    case rel => exact ⟨n + 1, by omega, by go_num, ⟨some ⟨g7, 0, none⟩, c7, by rw [HNX.out, HL7.out]⟩, Lib.hid (by rw [HNX.out]; first | exact HO7.out | (rw [HL7.out]; exact HO7.out)), hbz⟩
                    case measure => first | (simp [intOf]; done) | (simp [intOf]; omega)
                · by_cases hE0 : E.length - j = 0
                  · have HE0 := Lib.hid hE0
                    clear hE0
                    refine wp_region_held_drew (S := fun w' => Below ws.heap.size ws w') (by kernel_rfl) ((Below.refl _ _).drew) (fun hHeld => ?_)
                    refine takeU (i := 0) (some 69) (.slice (some ⟨g, 0, none⟩) E.length cv) (by kernel_rfl) (by kernel_rfl) (by kernel_rfl) (by kernel_rfl) (by kernel_rfl) (fun _ => by kernel_rfl) (fun _ _ _ h => h) hHeld ?_
                    refine takeU (i := 1) (some 70) (.int .i64 j) (by kernel_rfl) (by kernel_rfl) (by kernel_rfl) (by kernel_rfl) (by kernel_rfl) (fun _ => by kernel_rfl) (fun _ _ _ h => h) hHeld ?_
                    refine takeU (i := 2) (some 71) (.int .i64 j) (by kernel_rfl) (by kernel_rfl) (by kernel_rfl) (by kernel_rfl) (by kernel_rfl) (fun _ => by kernel_rfl) (fun _ _ _ h => h) hHeld ?_
                    refine wpAnyH_take (i := 3) (oi := { dst := some 72, op := Go.Op.slice 36 (Go.Operand.tmp 69) none (some (Go.Operand.tmp 70)) (some (Go.Operand.tmp 71)), type := 36, pos := "ref.go:201", after := #[{ on := 0, ground := Go.Ground.data }, { on := 1, ground := Go.Ground.data }, { on := 2, ground := Go.Ground.data }], guard := none }) (v := .slice (some ⟨g, 0, none⟩) j j) rfl (by kernel_rfl) (by kernel_rfl) (by kernel_rfl) (fun _ _ _ h => h) (.inl ⟨by kernel_rfl, fun w9 h9 => by
                      clear hHeld h9
                      go_simp <;> (intro hcj; exfalso; omega)⟩) hHeld ?_
                    refine takeU (i := 4) (some 73) (.slice (some ⟨lb, lo, none⟩) N lc) (by kernel_rfl) (by kernel_rfl) (by kernel_rfl) (by kernel_rfl) (by kernel_rfl) (fun _ => by kernel_rfl) (fun _ _ _ h => h) hHeld ?_
                    refine takeU (i := 5) (some 74) (.int .i64 n) (by kernel_rfl) (by kernel_rfl) (by kernel_rfl) (by kernel_rfl) (by kernel_rfl) (fun _ => by kernel_rfl) (fun _ _ _ h => h) hHeld ?_
                    refine wpAnyH_take (i := 6) (oi := { dst := some 75, op := Go.Op.indexAddr 36 (Go.Operand.tmp 73) (Go.Operand.tmp 74), type := 0, pos := "ref.go:201", after := #[{ on := 4, ground := Go.Ground.data }, { on := 5, ground := Go.Ground.data }], guard := none }) (v := .pointer (some ⟨lb, lo + n * 2, none⟩)) rfl (by kernel_rfl) (by kernel_rfl) (by kernel_rfl) (fun _ _ _ h => h) (.inl ⟨by kernel_rfl, fun w9 h9 => by
                      clear hHeld h9
                      go_simp⟩) hHeld ?_
                    refine wpAnyH_take (i := 7) (oi := { dst := some 76, op := Go.Op.load 76 (Go.Operand.tmp 75), type := 76, pos := "ref.go:201", after := #[{ on := 6, ground := Go.Ground.data }], guard := none }) (v := .agg #[.int .i64 X.j, .int .i64 X.n]) rfl (by kernel_rfl) (by kernel_rfl) (by kernel_rfl) (fun _ _ _ h => h) (.inl ⟨by kernel_rfl, fun w9 h9 => by
                      clear hHeld
                      have d0 := (h9.cell (p := ⟨lb, lo + n * 2, none⟩) hzq).trans q0
                      have d1 := (h9.cell (p := ⟨lb, lo + n * 2 + 1, none⟩) hzq).trans q1
                      clear h9
                      go_simp⟩) hHeld ?_
                    refine takeU (i := 9) (some 78) (.slice (some ⟨g, 0, none⟩) E.length cv) (by kernel_rfl) (by kernel_rfl) (by kernel_rfl) (by kernel_rfl) (by kernel_rfl) (fun _ => by kernel_rfl) (fun _ _ _ h => h) hHeld ?_
                    refine takeU (i := 10) (some 79) (.int .i64 j) (by kernel_rfl) (by kernel_rfl) (by kernel_rfl) (by kernel_rfl) (by kernel_rfl) (fun _ => by kernel_rfl) (fun _ _ _ h => h) hHeld ?_
                    refine wpAnyH_take (i := 11) (oi := { dst := some 80, op := Go.Op.slice 36 (Go.Operand.tmp 78) (some (Go.Operand.tmp 79)) none none, type := 36, pos := "ref.go:201", after := #[{ on := 9, ground := Go.Ground.data }, { on := 10, ground := Go.Ground.data }], guard := none }) (v := .slice (if cv = j then some ⟨g, 0, none⟩ else some ⟨g, j * 2, none⟩) (E.length - j) (cv - j)) rfl (by kernel_rfl) (by kernel_rfl) (by kernel_rfl) (fun _ _ _ h => h) (.inl ⟨by kernel_rfl, fun w9 h9 => by
                      clear hHeld h9
                      go_simp <;> (intro hcj; exfalso; omega)⟩) hHeld ?_
                    try simp only [Act.put, List.setIfInBounds_toArray, List.set_cons_zero, List.set_cons_succ]
                    refine wpAnyH_ready (rs := [8]) (by kernel_rfl) (by simp) ?_
                    refine AllReadyH.cons (o := { dst := some 77, op := Go.Op.buildSlice 36 1 #[(0, Go.Operand.tmp 76)], type := 36, pos := "ref.go:201", after := #[{ on := 7, ground := Go.Ground.data }], guard := none }) rfl (fun K hK => ?_) AllReadyH.nil
                    go_simp
                    refine hK.out _ _ (hHeld.alloc (Nat.le_refl _) _) (fun hHeld => ?_)
                    clear hK K
                    try simp only [Act.put, List.setIfInBounds_toArray, List.set_cons_zero, List.set_cons_succ]
                    try simp only [Act.put, List.setIfInBounds_toArray, List.set_cons_zero, List.set_cons_succ]
                    refine wpAnyH_ready (rs := [12]) (by kernel_rfl) (by simp) ?_
                    refine AllReadyH.cons (o := { dst := some 81, op := Go.Op.call { callee := Go.Callee.builtin Go.Builtin.append, args := #[Go.Operand.tmp 77, Go.Operand.tmp 80], argTypes := #[36, 36] }, type := 36, pos := "ref.go:201", after := #[{ on := 8, ground := Go.Ground.data }, { on := 11, ground := Go.Ground.data }], guard := none }) rfl (fun K hK => ?_) AllReadyH.nil
                    have hown0 : (ws.drew.alloc (.cells #[.int .i64 X.j, .int .i64 X.n] 76)).ownsRow ws.heap.size 76 2 (.slice (some ⟨ws.heap.size, 0, none⟩) 1 1) 1 [.int .i64 X.j, .int .i64 X.n] := ⟨rfl, .inr ⟨ws.heap.size, 1, #[.int .i64 X.j, .int .i64 X.n], rfl, Nat.le_refl _, heap_alloc_new _ _, Nat.le_refl 1, by decide, rfl, rfl⟩⟩
                    refine stepZ (by rfl) _ _ 36 (by rfl) ws.heap.size 76 n0 2 Try.underlying36 hi (.slice (some ⟨ws.heap.size, 0, none⟩) 1 1) 1 [.int .i64 X.j, .int .i64 X.n] (by rfl) hown0 (if cv = j then some ⟨g, 0, none⟩ else some ⟨g, j * 2, none⟩) (E.length - j) (cv - j) (by rfl) (by have := HE0.out; omega) ?_
                    refine hK.out _ _ hHeld (fun hHeld => ?_)
                    clear hK K
                    try simp only [Act.put, List.setIfInBounds_toArray, List.set_cons_zero, List.set_cons_succ]
                    try simp only [Act.put, List.setIfInBounds_toArray, List.set_cons_zero, List.set_cons_succ]
                    refine wpAnyH_ready (rs := [13]) (by kernel_rfl) (by simp) ?_
                    refine AllReadyH.cons (o := { dst := some 82, op := Go.Op.call { callee := Go.Callee.builtin Go.Builtin.append, args := #[Go.Operand.tmp 72, Go.Operand.tmp 81], argTypes := #[36, 36] }, type := 36, pos := "ref.go:201", after := #[{ on := 3, ground := Go.Ground.data }, { on := 12, ground := Go.Ground.data }, { on := 12, ground := Go.Ground.chain }], guard := none }) rfl (fun K hK => ?_) AllReadyH.nil
                    refine step_append_grows (by rfl) _ _ 36 (by rfl) 76 n0 _ 2 16 Try.underlying36 hi hz0 hz1 hz2 rfl (by decide) (some ⟨g, 0, none⟩) j j (clJ (E.take j)) (by rfl) (fun e => by cases e) (by rw [clJ_len, List.length_take]; omega) (fun b hb j9 u hu => by
                      cases hb
                      rw [← clJ_take, List.getElem?_take] at hu
                      split at hu
                      · rw [Addr.add_lit, Nat.zero_add]
                        exact ((hHeld.cell (p := ⟨g, j9, none⟩) hgz).trans (World.ownsRow.cellAt HRs.out j9 (by omega))).trans hu
                      · cases hu) ⟨ws.heap.size, 0, none⟩ 1 1 [.int .i64 X.j, .int .i64 X.n] (by rfl) hown0.1 (fun j9 u hu => by
                      have hjl : j9 < 1 * 2 := by rw [← hown0.1]; exact (List.getElem?_eq_some_iff.1 hu).1
                      rw [Addr.add_lit, Nat.zero_add]; exact (World.ownsRow.cellAt hown0 j9 hjl).trans hu) (by exact clJ_one [X]) (by omega) (by unfold maxLen; omega) (by omega) ?_
                    intro v7 w7 hown7 hgrow7
                    obtain ⟨g7, c7, rfl, hg7, hl7⟩ := World.ownsRow.form hown7 (by omega)
                    have HO7 := Lib.hid (owns_baseI hown7 (base' := wL.heap.size) (Nat.le_trans hsB hHeld.size))
                    refine hK.out _ _ (hHeld.grown hgrow7 hHeld.size (fun z hz => by cases hz)) (fun hHeld => ?_)
                    clear hK K hown7 hgrow7
                    try simp only [Act.put, List.setIfInBounds_toArray, List.set_cons_zero, List.set_cons_succ]
                    refine takeU (i := 14) (some 7) (.slice (some ⟨g7, 0, none⟩) (j + 1) c7) (by kernel_rfl) (by kernel_rfl) (by kernel_rfl) (by kernel_rfl) (by kernel_rfl) (fun _ => by kernel_rfl) (fun _ _ _ h => h) hHeld ?_
                    refine wpAnyH_done (by kernel_rfl) ?_ _
                    try simp only [Act.put, List.setIfInBounds_toArray, List.set_cons_zero, List.set_cons_succ]
                    have HL7 : Hid (j + 1 = E1.length) := Lib.hid (by have := HE0.out; rw [HN2.out, List.length_append, List.length_cons, List.length_take, List.length_drop]; omega)
                    have HC7 : Hid (clJ (E.take j) ++ [.int .i64 X.j, .int .i64 X.n] = clJ E1) := Lib.hid (by have := HE0.out; rw [HN2.out, clJ_app, List.drop_of_length_le (by omega)]; rfl)
                    rw [HL7.out, HC7.out] at HO7
                    have hbz := hbks.trans (hHeld.mono hbks.size)
                    go_wp2_with fail
                    go_roundw
                    case rel => exact ⟨n + 1, by omega, by go_num, ⟨some ⟨g7, 0, none⟩, c7, by rw [HNX.out, HL7.out]⟩, Lib.hid (by rw [HNX.out]; first | exact HO7.out | (rw [HL7.out]; exact HO7.out)), hbz⟩
                    case measure => first | (simp [intOf]; done) | (simp [intOf]; omega)
                  · have hcp : ¬ cv = j := by omega
                    have HE0 := Lib.hid hE0
                    clear hE0
                    refine wp_region_held_drew (S := fun w' => Below ws.heap.size ws w') (by kernel_rfl) ((Below.refl _ _).drew) (fun hHeld => ?_)
                    refine takeU (i := 0) (some 69) (.slice (some ⟨g, 0, none⟩) E.length cv) (by kernel_rfl) (by kernel_rfl) (by kernel_rfl) (by kernel_rfl) (by kernel_rfl) (fun _ => by kernel_rfl) (fun _ _ _ h => h) hHeld ?_
                    refine takeU (i := 1) (some 70) (.int .i64 j) (by kernel_rfl) (by kernel_rfl) (by kernel_rfl) (by kernel_rfl) (by kernel_rfl) (fun _ => by kernel_rfl) (fun _ _ _ h => h) hHeld ?_
                    refine takeU (i := 2) (some 71) (.int .i64 j) (by kernel_rfl) (by kernel_rfl) (by kernel_rfl) (by kernel_rfl) (by kernel_rfl) (fun _ => by kernel_rfl) (fun _ _ _ h => h) hHeld ?_
                    refine wpAnyH_take (i := 3) (oi := { dst := some 72, op := Go.Op.slice 36 (Go.Operand.tmp 69) none (some (Go.Operand.tmp 70)) (some (Go.Operand.tmp 71)), type := 36, pos := "ref.go:201", after := #[{ on := 0, ground := Go.Ground.data }, { on := 1, ground := Go.Ground.data }, { on := 2, ground := Go.Ground.data }], guard := none }) (v := .slice (some ⟨g, 0, none⟩) j j) rfl (by kernel_rfl) (by kernel_rfl) (by kernel_rfl) (fun _ _ _ h => h) (.inl ⟨by kernel_rfl, fun w9 h9 => by
                      clear hHeld h9
                      go_simp <;> (intro hcj; exfalso; omega)⟩) hHeld ?_
                    refine takeU (i := 4) (some 73) (.slice (some ⟨lb, lo, none⟩) N lc) (by kernel_rfl) (by kernel_rfl) (by kernel_rfl) (by kernel_rfl) (by kernel_rfl) (fun _ => by kernel_rfl) (fun _ _ _ h => h) hHeld ?_
                    refine takeU (i := 5) (some 74) (.int .i64 n) (by kernel_rfl) (by kernel_rfl) (by kernel_rfl) (by kernel_rfl) (by kernel_rfl) (fun _ => by kernel_rfl) (fun _ _ _ h => h) hHeld ?_
                    refine wpAnyH_take (i := 6) (oi := { dst := some 75, op := Go.Op.indexAddr 36 (Go.Operand.tmp 73) (Go.Operand.tmp 74), type := 0, pos := "ref.go:201", after := #[{ on := 4, ground := Go.Ground.data }, { on := 5, ground := Go.Ground.data }], guard := none }) (v := .pointer (some ⟨lb, lo + n * 2, none⟩)) rfl (by kernel_rfl) (by kernel_rfl) (by kernel_rfl) (fun _ _ _ h => h) (.inl ⟨by kernel_rfl, fun w9 h9 => by
                      clear hHeld h9
                      go_simp⟩) hHeld ?_
                    refine wpAnyH_take (i := 7) (oi := { dst := some 76, op := Go.Op.load 76 (Go.Operand.tmp 75), type := 76, pos := "ref.go:201", after := #[{ on := 6, ground := Go.Ground.data }], guard := none }) (v := .agg #[.int .i64 X.j, .int .i64 X.n]) rfl (by kernel_rfl) (by kernel_rfl) (by kernel_rfl) (fun _ _ _ h => h) (.inl ⟨by kernel_rfl, fun w9 h9 => by
                      clear hHeld
                      have d0 := (h9.cell (p := ⟨lb, lo + n * 2, none⟩) hzq).trans q0
                      have d1 := (h9.cell (p := ⟨lb, lo + n * 2 + 1, none⟩) hzq).trans q1
                      clear h9
                      go_simp⟩) hHeld ?_
                    refine takeU (i := 9) (some 78) (.slice (some ⟨g, 0, none⟩) E.length cv) (by kernel_rfl) (by kernel_rfl) (by kernel_rfl) (by kernel_rfl) (by kernel_rfl) (fun _ => by kernel_rfl) (fun _ _ _ h => h) hHeld ?_
                    refine takeU (i := 10) (some 79) (.int .i64 j) (by kernel_rfl) (by kernel_rfl) (by kernel_rfl) (by kernel_rfl) (by kernel_rfl) (fun _ => by kernel_rfl) (fun _ _ _ h => h) hHeld ?_
                    refine wpAnyH_take (i := 11) (oi := { dst := some 80, op := Go.Op.slice 36 (Go.Operand.tmp 78) (some (Go.Operand.tmp 79)) none none, type := 36, pos := "ref.go:201", after := #[{ on := 9, ground := Go.Ground.data }, { on := 10, ground := Go.Ground.data }], guard := none }) (v := .slice (some ⟨g, j * 2, none⟩) (E.length - j) (cv - j)) rfl (by kernel_rfl) (by kernel_rfl) (by kernel_rfl) (fun _ _ _ h => h) (.inl ⟨by kernel_rfl, fun w9 h9 => by
                      clear hHeld h9
                      go_simp <;> (intro hcj; exfalso; omega)⟩) hHeld ?_
                    try simp only [Act.put, List.setIfInBounds_toArray, List.set_cons_zero, List.set_cons_succ]
                    refine wpAnyH_ready (rs := [8]) (by kernel_rfl) (by simp) ?_
                    refine AllReadyH.cons (o := { dst := some 77, op := Go.Op.buildSlice 36 1 #[(0, Go.Operand.tmp 76)], type := 36, pos := "ref.go:201", after := #[{ on := 7, ground := Go.Ground.data }], guard := none }) rfl (fun K hK => ?_) AllReadyH.nil
                    go_simp
                    refine hK.out _ _ (hHeld.alloc (Nat.le_refl _) _) (fun hHeld => ?_)
                    clear hK K
                    try simp only [Act.put, List.setIfInBounds_toArray, List.set_cons_zero, List.set_cons_succ]
                    try simp only [Act.put, List.setIfInBounds_toArray, List.set_cons_zero, List.set_cons_succ]
                    refine wpAnyH_ready (rs := [12]) (by kernel_rfl) (by simp) ?_
                    refine AllReadyH.cons (o := { dst := some 81, op := Go.Op.call { callee := Go.Callee.builtin Go.Builtin.append, args := #[Go.Operand.tmp 77, Go.Operand.tmp 80], argTypes := #[36, 36] }, type := 36, pos := "ref.go:201", after := #[{ on := 8, ground := Go.Ground.data }, { on := 11, ground := Go.Ground.data }], guard := none }) rfl (fun K hK => ?_) AllReadyH.nil
                    have hown0 : (ws.drew.alloc (.cells #[.int .i64 X.j, .int .i64 X.n] 76)).ownsRow ws.heap.size 76 2 (.slice (some ⟨ws.heap.size, 0, none⟩) 1 1) 1 [.int .i64 X.j, .int .i64 X.n] := ⟨rfl, .inr ⟨ws.heap.size, 1, #[.int .i64 X.j, .int .i64 X.n], rfl, Nat.le_refl _, heap_alloc_new _ _, Nat.le_refl 1, by decide, rfl, rfl⟩⟩
                    have hnw : ∀ (j9 : Nat) (u : Value), (clJ (E.drop j))[j9]? = some u → (ws.drew.alloc (.cells #[.int .i64 X.j, .int .i64 X.n] 76)).cell? ((⟨g, j * 2, none⟩ : Addr).add j9) = some u := fun j9 u hu => by
                      have hjl : j9 < (E.length - j) * 2 := by
                        have := (List.getElem?_eq_some_iff.1 hu).1
                        rw [clJ_len, List.length_drop] at this
                        exact this
                      rw [← clJ_drop, List.getElem?_drop] at hu
                      rw [Addr.add_lit]
                      refine (hHeld.cell (p := ⟨g, j * 2 + j9, none⟩) hgz).trans ?_
                      have h9 := World.ownsRow.cellAt HRs.out (j * 2 + j9) (by have := HE0.out; omega)
                      skip
                      exact h9.trans hu
                    refine step_append_lies _ (by rfl) _ _ _ (by rfl) ws.heap.size 76 n0 _ 2 16 Try.underlying36 hi hz0 hz1 hz2 rfl (by decide) (.slice (some ⟨ws.heap.size, 0, none⟩) 1 1) 1 [.int .i64 X.j, .int .i64 X.n] (by rfl) hown0 ⟨g, j * 2, none⟩ (E.length - j) (cv - j) (clJ (E.drop j)) (by rfl) (by rw [clJ_len, List.length_drop] <;> rfl) hnw (clJ_one _) (by have := HE0.out; omega) (by unfold maxLen; omega) (by omega) (by simp) _ rfl ?_
                    intro g6 c6 w6 hown6 hgrow6 hat6 hlt6
                    refine hK.out _ _ (hHeld.grown hgrow6 (by simp) (fun z hz => owns_blockI hown0 hz)) (fun hHeld => ?_)
                    clear hK K hgrow6 hat6 hlt6 hnw
                    try simp only [Act.put, List.setIfInBounds_toArray, List.set_cons_zero, List.set_cons_succ]
                    try simp only [Act.put, List.setIfInBounds_toArray, List.set_cons_zero, List.set_cons_succ]
                    refine wpAnyH_ready (rs := [13]) (by kernel_rfl) (by simp) ?_
                    refine AllReadyH.cons (o := { dst := some 82, op := Go.Op.call { callee := Go.Callee.builtin Go.Builtin.append, args := #[Go.Operand.tmp 72, Go.Operand.tmp 81], argTypes := #[36, 36] }, type := 36, pos := "ref.go:201", after := #[{ on := 3, ground := Go.Ground.data }, { on := 12, ground := Go.Ground.data }, { on := 12, ground := Go.Ground.chain }], guard := none }) rfl (fun K hK => ?_) AllReadyH.nil
                    refine step_append_grows (by rfl) _ _ 36 (by rfl) 76 n0 _ 2 16 Try.underlying36 hi hz0 hz1 hz2 rfl (by decide) (some ⟨g, 0, none⟩) j j (clJ (E.take j)) (by rfl) (fun e => by cases e) (by rw [clJ_len, List.length_take]; omega) (fun b hb j9 u hu => by
                      cases hb
                      rw [← clJ_take, List.getElem?_take] at hu
                      split at hu
                      · rw [Addr.add_lit, Nat.zero_add]
                        exact ((hHeld.cell (p := ⟨g, j9, none⟩) hgz).trans (World.ownsRow.cellAt HRs.out j9 (by omega))).trans hu
                      · cases hu) ⟨g6, 0, none⟩ (1 + (E.length - j)) c6 ([.int .i64 X.j, .int .i64 X.n] ++ clJ (E.drop j)) (by rfl) hown6.1 (fun j9 u hu => by
                      have hjl : j9 < (1 + (E.length - j)) * 2 := by rw [← hown6.1]; exact (List.getElem?_eq_some_iff.1 hu).1
                      rw [Addr.add_lit, Nat.zero_add]; exact (World.ownsRow.cellAt hown6 j9 hjl).trans hu) (by exact clJ_one (X :: E.drop j)) (by omega) (by unfold maxLen; omega) (by omega) ?_
                    intro v7 w7 hown7 hgrow7
                    obtain ⟨g7, c7, rfl, hg7, hl7⟩ := World.ownsRow.form hown7 (by omega)
                    have HO7 := Lib.hid (owns_baseI hown7 (base' := wL.heap.size) (Nat.le_trans hsB hHeld.size))
                    refine hK.out _ _ (hHeld.grown hgrow7 hHeld.size (fun z hz => by cases hz)) (fun hHeld => ?_)
                    clear hK K hown7 hgrow7
                    try simp only [Act.put, List.setIfInBounds_toArray, List.set_cons_zero, List.set_cons_succ]
                    refine takeU (i := 14) (some 7) (.slice (some ⟨g7, 0, none⟩) (j + (1 + (E.length - j))) c7) (by kernel_rfl) (by kernel_rfl) (by kernel_rfl) (by kernel_rfl) (by kernel_rfl) (fun _ => by kernel_rfl) (fun _ _ _ h => h) hHeld ?_
                    refine wpAnyH_done (by kernel_rfl) ?_ _
                    try simp only [Act.put, List.setIfInBounds_toArray, List.set_cons_zero, List.set_cons_succ]
                    have HL7 : Hid (j + (1 + (E.length - j)) = E1.length) := Lib.hid (by have := HE0.out; rw [HN2.out, List.length_append, List.length_cons, List.length_take, List.length_drop]; omega)
                    have HC7 : Hid (clJ (E.take j) ++ ([.int .i64 X.j, .int .i64 X.n] ++ clJ (E.drop j)) = clJ E1) := Lib.hid (by rw [HN2.out, clJ_app]; rfl)
                    rw [HL7.out, HC7.out] at HO7
                    have hbz := hbks.trans (hHeld.mono hbks.size)
                    go_wp2_with fail
                    go_roundw
                    case rel => exact ⟨n + 1, by omega, by go_num, ⟨some ⟨g7, 0, none⟩, c7, by rw [HNX.out, HL7.out]⟩, Lib.hid (by rw [HNX.out]; first | exact HO7.out | (rw [HL7.out]; exact HO7.out)), hbz⟩
                    case measure => first | (simp [intOf]; done) | (simp [intOf]; omega)
      · have d1 : (y.1 != m) = true := by simpa using hm
        have HNX := Lib.hid (HNX.out.trans (if_neg hm))
        clear hm
        go_wp2_with fail
        refine wp_region_held_drew (S := fun w' => Below wr.heap.size wr w') (by kernel_rfl) ((Below.refl _ _).drew) (fun hHeld => ?_)
        refine wpAnyH_take (i := 0) (oi := { dst := some 19, op := Go.Op.load 25 (Go.Operand.tmp 3), type := 25, pos := "ref.go:194", after := #[], guard := none }) (v := .agg #[.int .i64 s.O, .int .i64 s.C, .slice s.aH s.H.length s.cH, .int .i64 s.M, .slice s.aS s.S.length s.cS, .slice s.aJ s.J.length s.cJ]) rfl (by kernel_rfl) (by kernel_rfl) (by kernel_rfl) (fun _ _ _ h => h) (.inl ⟨by kernel_rfl, fun w9 h9 => by
          clear hHeld
          have d0 := (h9.cell (p := ⟨w.heap.size, 0, none⟩) hzp).trans p0
          have d1 := (h9.cell (p := ⟨w.heap.size, 1, none⟩) hzp).trans p1
          have d2 := (h9.cell (p := ⟨w.heap.size, 2, none⟩) hzp).trans p2
          have d3 := (h9.cell (p := ⟨w.heap.size, 3, none⟩) hzp).trans p3
          have d4 := (h9.cell (p := ⟨w.heap.size, 4, none⟩) hzp).trans p4
          have d5 := (h9.cell (p := ⟨w.heap.size, 5, none⟩) hzp).trans p5
          clear h9
          go_simp⟩) hHeld ?_
        refine takeU (i := 1) (some 20) (.slice (some ⟨lb, lo, none⟩) N lc) (by kernel_rfl) (by kernel_rfl) (by kernel_rfl) (by kernel_rfl) (by kernel_rfl) (fun _ => by kernel_rfl) (fun _ _ _ h => h) hHeld ?_
        refine takeU (i := 2) (some 21) (.int .i64 n) (by kernel_rfl) (by kernel_rfl) (by kernel_rfl) (by kernel_rfl) (by kernel_rfl) (fun _ => by kernel_rfl) (fun _ _ _ h => h) hHeld ?_
        refine wpAnyH_take (i := 3) (oi := { dst := some 22, op := Go.Op.indexAddr 36 (Go.Operand.tmp 20) (Go.Operand.tmp 21), type := 0, pos := "ref.go:194", after := #[{ on := 1, ground := Go.Ground.data }, { on := 2, ground := Go.Ground.data }], guard := none }) (v := .pointer (some ⟨lb, lo + n * 2, none⟩)) rfl (by kernel_rfl) (by kernel_rfl) (by kernel_rfl) (fun _ _ _ h => h) (.inl ⟨by kernel_rfl, fun w9 h9 => by
          clear hHeld h9
          go_simp⟩) hHeld ?_
        refine wpAnyH_take (i := 4) (oi := { dst := some 23, op := Go.Op.load 76 (Go.Operand.tmp 22), type := 76, pos := "ref.go:194", after := #[{ on := 3, ground := Go.Ground.data }], guard := none }) (v := .agg #[.int .i64 a, .int .i64 b]) rfl (by kernel_rfl) (by kernel_rfl) (by kernel_rfl) (fun _ _ _ h => h) (.inl ⟨by kernel_rfl, fun w9 h9 => by
          clear hHeld
          have d0 := (h9.cell (p := ⟨lb, lo + n * 2, none⟩) hzq).trans q0
          have d1 := (h9.cell (p := ⟨lb, lo + n * 2 + 1, none⟩) hzq).trans q1
          clear h9
          go_simp⟩) hHeld ?_
        refine takeU (i := 7) (some 26) (.int .i64 m) (by kernel_rfl) (by kernel_rfl) (by kernel_rfl) (by kernel_rfl) (by kernel_rfl) (fun _ => by kernel_rfl) (fun _ _ _ h => h) hHeld ?_
        try simp only [Act.put, List.setIfInBounds_toArray, List.set_cons_zero, List.set_cons_succ]
        refine wpAnyH_ready (rs := [5]) (by kernel_rfl) (by simp) ?_
        refine AllReadyH.cons (o := { dst := some 24, op := Go.Op.call { callee := Go.Callee.value (Go.Operand.func 49), args := #[Go.Operand.tmp 19, Go.Operand.tmp 23], argTypes := #[25, 76] }, type := 57, pos := "ref.go:194", after := #[{ on := 0, ground := Go.Ground.data }, { on := 4, ground := Go.Ground.data }], guard := none }) rfl (fun K hK => ?_) AllReadyH.nil
        go_simp
        go_at_call 49
        refine (HAtn.out _ (HbR.out.trans (hHeld.mono HbR.out.size))).mono ?_
        rintro e w59 ⟨rfl, hb59⟩
        refine hK.out _ _ (hHeld.trans (hb59.mono hHeld.size)) (fun hHeld => ?_)
        clear hK K hb59
        try simp only [Act.put, List.setIfInBounds_toArray, List.set_cons_zero, List.set_cons_succ]
        refine wpAnyH_take (i := 6) (oi := { dst := some 25, op := Go.Op.field 57 (Go.Operand.tmp 24) 0, type := 3, pos := "ref.go:194", after := #[{ on := 5, ground := Go.Ground.data }], guard := none }) (v := .int .i64 y.1) rfl (by kernel_rfl) (by kernel_rfl) (by kernel_rfl) (fun _ _ _ h => h) (.inl ⟨by kernel_rfl, fun w9 h9 => by
          clear hHeld h9
          go_simp⟩) hHeld ?_
        refine wpAnyH_take (i := 8) (oi := { dst := some 27, op := Go.Op.binOp Go.BinOp.neq 3 (Go.Operand.tmp 25) (Go.Operand.tmp 26) 3, type := 4, pos := "ref.go:194", after := #[{ on := 6, ground := Go.Ground.data }, { on := 7, ground := Go.Ground.data }], guard := none }) (v := .bool true) rfl (by kernel_rfl) (by kernel_rfl) (by kernel_rfl) (fun _ _ _ h => h) (.inl ⟨by kernel_rfl, fun w9 h9 => by
          clear hHeld h9
          go_simp⟩) hHeld ?_
        refine wpAnyH_done (by kernel_rfl) ?_ _
        try simp only [Act.put, List.setIfInBounds_toArray, List.set_cons_zero, List.set_cons_succ]
        have HbY := Lib.hid (Hbr.out.trans (hHeld.mono Hbr.out.size))
        have HRow := Lib.hid (owns_belowI HRow.out hHeld)
        clear p0 p1 p2 p3 p4 p5 q0 q1 gq hq hzp hzq hzg hzh HbR Hbr hHeld
        go_wp2_with fail
        go_roundw
        case rel => first | exact ⟨n + 1, by omega, by go_num, ⟨av, cv, by rw [HNX.out]⟩, Lib.hid (by rw [HNX.out]; exact HRow.out), HbY.out⟩ | ((repeat apply Exists.intro); exact ⟨⟨n + 1, by omega, by go_num, ⟨av, cv, by rw [HNX.out]⟩, Lib.hid (by rw [HNX.out]; exact HRow.out), HbY.out⟩, rfl⟩)
        case measure => first | (simp [intOf]; done) | (simp [intOf]; omega)
    · obtain rfl : N = n := by omega
      have HEnd := Lib.hid (HRS.out _ _ _ _ HRow.out)
      have HL9 : Hid ((insK m (plcL s P) N).length = (prs (insV m (plcL s P))).length) := Lib.hid (by rw [prs_len, HEL.out])
      go_wp2_with fail
      go_ret
      exact ⟨av, cv, by rw [HL9.out]; rfl, HEnd.out, HBL.out.trans (hbr.mono HBL.out.size)⟩
end Go.Proofs.Ytgphkfonjfdifaa
