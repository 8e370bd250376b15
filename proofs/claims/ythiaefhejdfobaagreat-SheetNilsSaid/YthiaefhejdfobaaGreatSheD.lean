/-
  New, missing, Receive and Balance at the example of package sheet. By an AI agent.
-/
import Derived.Test.YthiaefhejdfobaaGreatSheBr
import Derived.Test.YthiaefhejdfobaaGreatRawMap
import Derived.Test.YthiaefhejdfobaaGreatRoadR
import Derived.Deep.RegionHeld3
import Derived.BigQuiet
import Derived.BigRegion
import Derived.Deep.DeepCutAuto
import Derived.StillTailTactics
namespace Go.Proofs.YthiaefhejdfobaaGreat
set_option linter.unusedVariables false
set_option linter.unusedSimpArgs false
open Go.RowKit

/-- A store with the rules 1, 1, 0, 0, 0 whose maps lie in blocks m1 to m4. -/
structure StB (w : World) (s m1 m2 m3 m4 : Nat) (last area : Int) : Prop where
  c0 : w.cell? ⟨s, 0, none⟩ = some (.int .i64 1)
  c1 : w.cell? ⟨s, 1, none⟩ = some (.int .i64 1)
  c2 : w.cell? ⟨s, 2, none⟩ = some (.int .i64 0)
  c3 : w.cell? ⟨s, 3, none⟩ = some (.int .i64 0)
  c4 : w.cell? ⟨s, 4, none⟩ = some (.int .i64 0)
  c5 : w.cell? ⟨s, 5, none⟩ = some (.map (some m1))
  c6 : w.cell? ⟨s, 6, none⟩ = some (.map (some m2))
  c7 : w.cell? ⟨s, 7, none⟩ = some (.map (some m3))
  c8 : w.cell? ⟨s, 8, none⟩ = some (.map (some m4))
  c9 : w.cell? ⟨s, 9, none⟩ = some (.int .i64 last)
  c10 : w.cell? ⟨s, 10, none⟩ = some (.int .i64 area)
  f9 : w.frozen? ⟨s, 9, none⟩ = false
  f10 : w.frozen? ⟨s, 10, none⟩ = false
theorem StB.below {w w' : World} {s m1 m2 m3 m4 : Nat} {last area : Int} (h : StB w s m1 m2 m3 m4 last area) (hb : Below w.heap.size w w') : StB w' s m1 m2 m3 m4 last area :=
  ⟨cell_below h.c0 hb, cell_below h.c1 hb, cell_below h.c2 hb, cell_below h.c3 hb, cell_below h.c4 hb, cell_below h.c5 hb, cell_below h.c6 hb, cell_below h.c7 hb, cell_below h.c8 hb, cell_below h.c9 hb, cell_below h.c10 hb,
    (hb.frozen (p := ⟨s, 9, none⟩) (block_lt h.c9)).trans h.f9, (hb.frozen (p := ⟨s, 10, none⟩) (block_lt h.c10)).trans h.f10⟩
theorem cell_same {w w' : World} {b o : Nat} (h : w'.heap[b]? = w.heap[b]?) : w'.cell? ⟨b, o, none⟩ = w.cell? ⟨b, o, none⟩ := by simp [World.cell?, h]
theorem frozen_same {w w' : World} {b o : Nat} (h : w'.heap[b]? = w.heap[b]?) : w'.frozen? ⟨b, o, none⟩ = w.frozen? ⟨b, o, none⟩ := by simp [World.frozen?, h]
theorem StB.same {w w' : World} {s m1 m2 m3 m4 : Nat} {last area : Int} (h : StB w s m1 m2 m3 m4 last area) (hb : w'.heap[s]? = w.heap[s]?) : StB w' s m1 m2 m3 m4 last area :=
  ⟨(cell_same hb).trans h.c0, (cell_same hb).trans h.c1, (cell_same hb).trans h.c2, (cell_same hb).trans h.c3, (cell_same hb).trans h.c4, (cell_same hb).trans h.c5, (cell_same hb).trans h.c6, (cell_same hb).trans h.c7, (cell_same hb).trans h.c8, (cell_same hb).trans h.c9, (cell_same hb).trans h.c10, (frozen_same hb).trans h.f9, (frozen_same hb).trans h.f10⟩
theorem StB.setLast {w : World} {s m1 m2 m3 m4 : Nat} {last area : Int} (h : StB w s m1 m2 m3 m4 last area) (x : Int) : StB (w.setCell ⟨s, 9, none⟩ (.int .i64 x)) s m1 m2 m3 m4 x area := by
  obtain ⟨c0, c1, c2, c3, c4, c5, c6, c7, c8, c9, c10, f9, f10⟩ := h
  constructor <;> simp [go_sem, *]
theorem StB.setArea {w : World} {s m1 m2 m3 m4 : Nat} {last area : Int} (h : StB w s m1 m2 m3 m4 last area) (x : Int) : StB (w.setCell ⟨s, 10, none⟩ (.int .i64 x)) s m1 m2 m3 m4 last x := by
  obtain ⟨c0, c1, c2, c3, c4, c5, c6, c7, c8, c9, c10, f9, f10⟩ := h
  constructor <;> simp [go_sem, *]
theorem StB.drew {w : World} {s m1 m2 m3 m4 : Nat} {last area : Int} (h : StB w s m1 m2 m3 m4 last area) : StB w.drew s m1 m2 m3 m4 last area := ⟨h.c0, h.c1, h.c2, h.c3, h.c4, h.c5, h.c6, h.c7, h.c8, h.c9, h.c10, h.f9, h.f10⟩
/-- The maps of a store: each an array of entries under a clock. -/
def MapIs (w : World) (m : Nat) (es : Array MapEntry) (clock : Nat) : Prop := w.heap[m]? = some (.map es clock)
theorem MapIs.lt {w : World} {m : Nat} {es : Array MapEntry} {clock : Nat} (h : MapIs w m es clock) : m < w.heap.size := (Array.getElem?_eq_some_iff.1 h).1
theorem MapIs.below {w w' : World} {m : Nat} {es : Array MapEntry} {clock : Nat} (h : MapIs w m es clock) (hb : Below w.heap.size w w') : MapIs w' m es clock := (hb.block m h.lt).trans h
theorem MapIs.alloc {w : World} {m : Nat} {es : Array MapEntry} {clock : Nat} (h : MapIs w m es clock) (o : Obj) : MapIs (w.alloc o) m es clock := h.below ((Below.refl _ _).alloc (Nat.le_refl _) _)
theorem MapIs.made (w : World) : MapIs (w.alloc (.map #[] 0)) w.heap.size #[] 0 := (MapKept.heap_alloc w _).1
theorem MapIs.made1 (w : World) (a : Obj) : MapIs ((w.alloc a).alloc (.map #[] 0)) (w.heap.size + 1) #[] 0 := by have h := MapIs.made (w.alloc a); simpa using h
theorem MapIs.made2 (w : World) (a b : Obj) : MapIs (((w.alloc a).alloc b).alloc (.map #[] 0)) (w.heap.size + 2) #[] 0 := by have h := MapIs.made ((w.alloc a).alloc b); simpa using h
theorem MapIs.made3 (w : World) (a b c : Obj) : MapIs ((((w.alloc a).alloc b).alloc c).alloc (.map #[] 0)) (w.heap.size + 3) #[] 0 := by have h := MapIs.made (((w.alloc a).alloc b).alloc c); simpa using h
/-- A new store. -/
def NewS (w : World) (e : Ending) (w' : World) : Prop := ∃ s m1 m2 m3 m4 : Nat, e = .returned (.tuple #[.pointer (some ⟨s, 0, none⟩), .int .i64 0]) ∧ StB w' s m1 m2 m3 m4 0 0 ∧ MapIs w' m1 #[] 0 ∧ MapIs w' m2 #[] 0 ∧ MapIs w' m3 #[] 0 ∧ MapIs w' m4 #[] 0 ∧
  s ≠ m1 ∧ s ≠ m2 ∧ s ≠ m3 ∧ s ≠ m4 ∧ m1 ≠ m2 ∧ m1 ≠ m3 ∧ m1 ≠ m4 ∧ m2 ≠ m3 ∧ m2 ≠ m4 ∧ m3 ≠ m4 ∧ w.heap.size ≤ s ∧ w.heap.size ≤ m1 ∧ w.heap.size ≤ m3 ∧ w.heap.size ≤ m4 ∧ Below w.heap.size w w'
set_option maxRecDepth 100000 in
theorem newS_any (w : World) : Calls Tryz.prog 46 #[.agg #[.int .i64 1, .int .i64 1, .int .i64 0, .int .i64 0, .int .i64 0]] w (NewS w) := by
  have hmm := @run_makeMap Tryz.prog
  have H := Lib.hid (fun W => rulesS_any 1 1 0 0 0 W)
  have e : rulesB 1 1 0 0 0 = true := by decide
  rw [e] at H
  clear e
  go_enter Tryz.func46, Tryz.ntmps46
  go_wp2_with fail
  refine (H.out _).mono ?_
  rintro e w1 ⟨rfl, hb1⟩
  obtain ⟨hc, hf⟩ := bcell hb1
  have hb1 := box_below hb1
  have hb := hb1.size
  go_wp2_with fail
  clear hc hf H hmm
  go_ret2
  refine ⟨w1.heap.size + 4, w1.heap.size, w1.heap.size + 1, w1.heap.size + 2, w1.heap.size + 3, rfl, ?_, ?_, ?_, ?_, ?_, by omega, by omega, by omega, by omega, by omega, by omega, by omega, by omega, by omega, by omega, by omega, by omega, by omega, by omega, ?_⟩
  · constructor <;> simp [go_sem]
  · exact ((((MapIs.made w1).alloc _).alloc _).alloc _).alloc _
  · exact (((MapIs.made1 w1 _).alloc _).alloc _).alloc _
  · exact ((MapIs.made2 w1 _ _).alloc _).alloc _
  · exact (MapIs.made3 w1 _ _ _).alloc _
  · exact ((((hb1.alloc hb _).alloc (by simp; omega) _).alloc (by simp; omega) _).alloc (by simp; omega) _).alloc (by simp; omega) _
set_option maxRecDepth 100000 in
theorem missS_any (w : World) (s m1 m2 m3 m4 : Nat) (last area : Int) (h : StB w s m1 m2 m3 m4 last area) : Calls Tryz.prog 18 #[.pointer (some ⟨s, 0, none⟩)] w fun e w' => e = .returned (.bool false) ∧ w = w' := by
  obtain ⟨c0, c1, c2, c3, c4, -⟩ := h
  go_enter Tryz.func18, Tryz.ntmps18
  go_wp2_with fail
  go_ret
  exact ⟨rfl, rfl⟩
theorem cloneNil_any (w : World) : Calls Tryz.prog 29 #[.slice none 0 0] w fun e w' => e = .returned (.slice none 0 0) ∧ w' = w := by
  have := AnyE.slices_Clone_nil Tryz.laysClone 0 0 w
  change Calls Tryz.prog 29 _ _ _ at this
  exact this
theorem zeroI (w : World) : (zeroValue 3).run Tryz.prog w = .ok (.int .i64 0) w := by kernel_rfl
theorem zeroBt (w : World) : (zeroValue 77).run Tryz.prog w = .ok (.agg #[.int .i64 0, .int .i64 0, .int .i64 0]) w := by kernel_rfl
theorem look_origin {W : World} {m : Nat} (h : MapIs W m #[] 0) : (Instr.lookup 36 (.map (some m)) (.int .i64 3) true).run Tryz.prog W = .ok (.tuple #[.int .i64 0, .bool false]) W :=
  raw_look_ok h Tryz.underlying36 (ck_int Tryz.underlying3 _ _ _) none (fk_int Tryz.underlying3 _ rfl _) _ (zeroI W)
theorem look_lots {W : World} {m : Nat} (h : MapIs W m #[] 0) : (Instr.lookup 35 (.map (some m)) (.int .i64 1) true).run Tryz.prog W = .ok (.tuple #[.agg #[.int .i64 0, .int .i64 0, .int .i64 0], .bool false]) W :=
  raw_look_ok h Tryz.underlying35 (ck_int Tryz.underlying3 _ _ _) none (fk_int Tryz.underlying3 _ rfl _) _ (zeroBt W)
theorem MapIs.drew {w : World} {m : Nat} {es : Array MapEntry} {clock : Nat} (h : MapIs w m es clock) : MapIs w.drew m es clock := h
/-- The store behind the roll. -/
def RecvS (B s m1 m2 m3 m4 : Nat) (w : World) (e : Ending) (w' : World) : Prop := e = .returned (.int .i64 0) ∧ StB w' s m1 m2 m3 m4 3 10 ∧ MapIs w' m1 #[⟨.int .i64 3, .agg #[.int .i64 3, .int .i64 3, .int .i64 1, .int .i64 1, .int .i64 1, .int .i64 0, .int .i64 2, .int .i64 5, .slice none 0 0], 0⟩] 1 ∧ MapIs w' m2 #[] 0 ∧ Below B w w'
set_option maxRecDepth 100000 in
set_option maxHeartbeats 4000000 in
theorem recvS_any (w : World) (B s m1 m2 m3 m4 : Nat) (h : StB w s m1 m2 m3 m4 0 0) (h1 : MapIs w m1 #[] 0) (h2 : MapIs w m2 #[] 0) (h3 : MapIs w m3 #[] 0) (h4 : MapIs w m4 #[] 0)
    (n1 : s ≠ m1) (n2 : s ≠ m2) (n3 : s ≠ m3) (n4 : s ≠ m4) (n5 : m1 ≠ m2) (n6 : m1 ≠ m3) (n7 : m1 ≠ m4) (n8 : m2 ≠ m3) (n9 : m2 ≠ m4) (n10 : m3 ≠ m4) (b1 : B ≤ s) (b2 : B ≤ m1) (b3 : B ≤ m3) (b4 : B ≤ m4) :
    Calls Tryz.prog 9 #[.pointer (some ⟨s, 0, none⟩), .agg #[.int .i64 3, .int .i64 1, .int .i64 1, .int .i64 1, .int .i64 0, .int .i64 2, .int .i64 5, .slice none 0 0]] w (RecvS B s m1 m2 m3 m4 w) := by
  have HM := Lib.hid (fun W (hW : Below w.heap.size w W) => missS_any W s m1 m2 m3 m4 0 0 (h.below hW))
  have HV := Lib.hid (fun W => rollS_any 3 1 1 1 0 2 5 none [] 0 W (pairs_nil W))
  have e : rollB 3 1 1 1 0 2 5 [] = true := by decide
  rw [e] at HV
  clear e
  have H := Lib.hid h
  have hs := block_lt h.c0
  have l1 := h1.lt
  have l2 := h2.lt
  have l3 := h3.lt
  have l4 := h4.lt
  clear h
  go_enter Tryz.func9, Tryz.ntmps9
  go_wp2_with fail
  refine (HM.out _ ((Below.refl _ _).alloc (Nat.le_refl _) _)).mono ?_
  rintro e w0 ⟨rfl, rfl⟩
  go_wp2_with fail
  refine (HV.out _).mono ?_
  rintro e w2 ⟨rfl, hb2⟩
  clear HM HV
  obtain ⟨hc, hf⟩ := bcell hb2
  have q0 : w2.cell? ⟨w.heap.size, 0, none⟩ = some (.int .i64 3) := by rw [hc _ _ (by simp)]; simp [go_sem]
  have q1 : w2.cell? ⟨w.heap.size, 1, none⟩ = some (.int .i64 1) := by rw [hc _ _ (by simp)]; simp [go_sem]
  have q2 : w2.cell? ⟨w.heap.size, 2, none⟩ = some (.int .i64 1) := by rw [hc _ _ (by simp)]; simp [go_sem]
  have q3 : w2.cell? ⟨w.heap.size, 3, none⟩ = some (.int .i64 1) := by rw [hc _ _ (by simp)]; simp [go_sem]
  have q4 : w2.cell? ⟨w.heap.size, 4, none⟩ = some (.int .i64 0) := by rw [hc _ _ (by simp)]; simp [go_sem]
  have q5 : w2.cell? ⟨w.heap.size, 5, none⟩ = some (.int .i64 2) := by rw [hc _ _ (by simp)]; simp [go_sem]
  have q6 : w2.cell? ⟨w.heap.size, 6, none⟩ = some (.int .i64 5) := by rw [hc _ _ (by simp)]; simp [go_sem]
  have q7 : w2.cell? ⟨w.heap.size, 7, none⟩ = some (.slice none 0 0) := by rw [hc _ _ (by simp)]; simp [go_sem]
  have hz2 : w.heap.size < w2.heap.size := by have := hb2.size; simp at this; omega
  clear hc hf
  have hb := box_below hb2
  clear hb2
  have G := Lib.hid (H.out.below hb)
  have k1 := Lib.hid (MapIs.below h1 hb)
  have k2 := Lib.hid (MapIs.below h2 hb)
  have k3 := Lib.hid (MapIs.below h3 hb)
  have k4 := Lib.hid (MapIs.below h4 hb)
  clear h1 h2 h3 h4 H
  have hl4 := look_origin k4.out
  have hl4d := look_origin k4.out.drew
  have c8 := G.out.c8
  go_wp2_with fail
  go_region
  clear c8 hl4 hl4d
  go_wp2_with fail
  obtain ⟨w3, hw3⟩ : ∃ w3, (w2.alloc (.cells #[.int .i64 1, .int .i64 1, .int .i64 0] 77)).drew = w3 := ⟨_, rfl⟩
  have hb3 : Below w2.heap.size w2 w3 := by rw [← hw3]; exact ((Below.refl _ _).alloc (Nat.le_refl _) _).drew
  have r0 : w3.cell? ⟨w2.heap.size, 0, none⟩ = some (.int .i64 1) := by rw [← hw3]; simp [go_sem]
  have r1 : w3.cell? ⟨w2.heap.size, 1, none⟩ = some (.int .i64 1) := by rw [← hw3]; simp [go_sem]
  have r2 : w3.cell? ⟨w2.heap.size, 2, none⟩ = some (.int .i64 0) := by rw [← hw3]; simp [go_sem]
  have hz3 : w2.heap.size < w3.heap.size := by rw [← hw3]; simp
  rw [hw3]
  clear hw3
  have q0 := cell_below q0 hb3
  have q1 := cell_below q1 hb3
  have q2 := cell_below q2 hb3
  have q3 := cell_below q3 hb3
  have q4 := cell_below q4 hb3
  have q5 := cell_below q5 hb3
  have q6 := cell_below q6 hb3
  have q7 := cell_below q7 hb3
  have G := Lib.hid (G.out.below hb3)
  have k1 := Lib.hid (k1.out.below hb3)
  have k2 := Lib.hid (k2.out.below hb3)
  have k3 := Lib.hid (k3.out.below hb3)
  have k4 := Lib.hid (k4.out.below hb3)
  have hb := hb.trans (hb3.mono hb.size)
  clear hb3
  have c7 := G.out.c7
  have hz4 : s < w3.heap.size := by omega
  have hz5 : w.heap.size < w3.heap.size := by omega
  have l0 := look_lots k3.out
  have l1 := look_lots k3.out.drew
  have l2 := look_lots (k3.out.alloc (.cells #[.int .i64 0, .int .i64 0, .int .i64 0] 77))
  have l3 := look_lots (k3.out.alloc (.cells #[.int .i64 0, .int .i64 0, .int .i64 0] 77)).drew
  go_region
  all_goals
    go_wp2_with fail
    obtain ⟨w4, hw4⟩ : ∃ w4, (w3.alloc (.cells #[.int .i64 0, .int .i64 0, .int .i64 0] 77)).drew = w4 := ⟨_, rfl⟩
    have hb3 : Below w3.heap.size w3 w4 := by rw [← hw4]; exact ((Below.refl _ _).alloc (Nat.le_refl _) _).drew
    rw [hw4]
    clear hw4
    have q0 := cell_below q0 hb3
    have q1 := cell_below q1 hb3
    have q2 := cell_below q2 hb3
    have q3 := cell_below q3 hb3
    have q4 := cell_below q4 hb3
    have q5 := cell_below q5 hb3
    have q6 := cell_below q6 hb3
    have q7 := cell_below q7 hb3
    have r0 := cell_below r0 hb3
    have r1 := cell_below r1 hb3
    have r2 := cell_below r2 hb3
    have G := Lib.hid (G.out.below hb3)
    have k1 := Lib.hid (k1.out.below hb3)
    have k2 := Lib.hid (k2.out.below hb3)
    have k3 := Lib.hid (k3.out.below hb3)
    have k4 := Lib.hid (k4.out.below hb3)
    have hb := hb.trans (hb3.mono hb.size)
    have hz6 := hb3.size
    clear hb3 c7
    have c7 := G.out.c7
    go_still_tail 7, (by kernel_rfl)
    refine wpList_put_raw _ rfl _ _ _ 35 rfl 3 77 m3 #[] 0 (.int .i64 1) (.agg #[.int .i64 1, .int .i64 1, .int .i64 0]) rfl k3.out.drew Tryz.underlying35 rfl rfl (ck_int Tryz.underlying3 _ _ _) (fk_int Tryz.underlying3 _ rfl _) ?_
    intro w5 hm5 hg5
    have hz7 := hb.size
    have hsm : ∀ b, b < w4.heap.size → b ≠ m3 → w5.heap[b]? = w4.heap[b]? := fun b h1 h2 => hg5.block b h1 (by simpa using h2)
    have q0 := (cell_same (hsm w.heap.size (by omega) (by omega))).trans q0
    have q1 := (cell_same (hsm w.heap.size (by omega) (by omega))).trans q1
    have q2 := (cell_same (hsm w.heap.size (by omega) (by omega))).trans q2
    have q3 := (cell_same (hsm w.heap.size (by omega) (by omega))).trans q3
    have q4 := (cell_same (hsm w.heap.size (by omega) (by omega))).trans q4
    have q5 := (cell_same (hsm w.heap.size (by omega) (by omega))).trans q5
    have q6 := (cell_same (hsm w.heap.size (by omega) (by omega))).trans q6
    have q7 := (cell_same (hsm w.heap.size (by omega) (by omega))).trans q7
    have G := Lib.hid (G.out.same (hsm s (by omega) (by omega)))
    have k1 : Hid (MapIs w5 m1 #[] 0) := Lib.hid ((hsm m1 (by omega) (by omega)).trans k1.out)
    have k2 : Hid (MapIs w5 m2 #[] 0) := Lib.hid ((hsm m2 (by omega) (by omega)).trans k2.out)
    have k4 : Hid (MapIs w5 m4 #[] 0) := Lib.hid ((hsm m4 (by omega) (by omega)).trans k4.out)
    have hb : Below B w w5 := (hb.mono (by omega)).drew.grown hg5 (by have := hb.size; simp; omega) (fun j hj => by cases hj; omega)
    have hz : w4.heap.size ≤ w5.heap.size := hg5.size
    clear hsm hg5
    clear c7
    have c8 := G.out.c8
    go_wp2_with fail
    go_still_tail 6, (by kernel_rfl)
    refine wpList_put_raw _ rfl _ _ _ 36 rfl 3 3 m4 #[] 0 (.int .i64 3) (.int .i64 0) rfl k4.out.drew Tryz.underlying36 rfl rfl (ck_int Tryz.underlying3 _ _ _) (fk_int Tryz.underlying3 _ rfl _) ?_
    intro w6 hm6 hg6
    have hz8 := hz
    have hsm : ∀ b, b < w5.heap.size → b ≠ m4 → w6.heap[b]? = w5.heap[b]? := fun b h1 h2 => hg6.block b h1 (by simpa using h2)
    have q0 := (cell_same (hsm w.heap.size (by omega) (by omega))).trans q0
    have q1 := (cell_same (hsm w.heap.size (by omega) (by omega))).trans q1
    have q2 := (cell_same (hsm w.heap.size (by omega) (by omega))).trans q2
    have q3 := (cell_same (hsm w.heap.size (by omega) (by omega))).trans q3
    have q4 := (cell_same (hsm w.heap.size (by omega) (by omega))).trans q4
    have q5 := (cell_same (hsm w.heap.size (by omega) (by omega))).trans q5
    have q6 := (cell_same (hsm w.heap.size (by omega) (by omega))).trans q6
    have q7 := (cell_same (hsm w.heap.size (by omega) (by omega))).trans q7
    have G := Lib.hid (G.out.same (hsm s (by omega) (by omega)))
    have k1 : Hid (MapIs w6 m1 #[] 0) := Lib.hid ((hsm m1 (by omega) (by omega)).trans k1.out)
    have k2 : Hid (MapIs w6 m2 #[] 0) := Lib.hid ((hsm m2 (by omega) (by omega)).trans k2.out)
    have hb : Below B w w6 := hb.drew.grown hg6 (by have := hb.size; simp; omega) (fun j hj => by cases hj; omega)
    have hz : w5.heap.size ≤ w6.heap.size := hg6.size
    clear hsm hg6
    clear c8
    have c9 := G.out.c9
    have f9 := G.out.f9
    go_wp2_with fail
    go_still_tail 10, (by kernel_rfl)
    change wpList _ _ _ _ _ w6.drew
    have c9d : w6.drew.cell? ⟨s, 9, none⟩ = some (.int .i64 0) := c9
    have f9d : w6.drew.frozen? ⟨s, 9, none⟩ = false := f9
    go_wp2_with fail
    clear c9 f9 c9d f9d
    obtain ⟨w7, hw7⟩ : ∃ w7, (w6.setCell ⟨s, 9, none⟩ (.int .i64 (max 0 3))).drew = w7 := ⟨_, rfl⟩
    have hsm : ∀ b, b ≠ s → w7.heap[b]? = w6.heap[b]? := fun b h2 => by rw [← hw7]; exact RowKit.Below.heap_setCell _ _ _ _ h2
    have G : Hid (StB w7 s m1 m2 m3 m4 (max 0 3) 0) := Lib.hid (by rw [← hw7]; exact (G.out.setLast _).drew)
    have hb : Below B w w7 := by rw [← hw7]; exact (hb.setCell (by omega) _).drew
    have hz9 : w6.heap.size ≤ w7.heap.size := by rw [← hw7]; simp
    rw [hw7]
    clear hw7
    have q0 := (cell_same (hsm w.heap.size (by omega))).trans q0
    have q1 := (cell_same (hsm w.heap.size (by omega))).trans q1
    have q2 := (cell_same (hsm w.heap.size (by omega))).trans q2
    have q3 := (cell_same (hsm w.heap.size (by omega))).trans q3
    have q4 := (cell_same (hsm w.heap.size (by omega))).trans q4
    have q5 := (cell_same (hsm w.heap.size (by omega))).trans q5
    have q6 := (cell_same (hsm w.heap.size (by omega))).trans q6
    have q7 := (cell_same (hsm w.heap.size (by omega))).trans q7
    have k1 : Hid (MapIs w7 m1 #[] 0) := Lib.hid ((hsm m1 (by omega)).trans k1.out)
    have k2 : Hid (MapIs w7 m2 #[] 0) := Lib.hid ((hsm m2 (by omega)).trans k2.out)
    clear hsm
    have c10 := G.out.c10
    have f10 := G.out.f10
    go_still_tail 12, (by kernel_rfl)
    change wpList _ _ _ _ _ w7.drew
    have c10d : w7.drew.cell? ⟨s, 10, none⟩ = some (.int .i64 0) := c10
    have f10d : w7.drew.frozen? ⟨s, 10, none⟩ = false := f10
    go_wp2_with fail
    clear c10 f10 c10d f10d
    obtain ⟨w8, hw8⟩ : ∃ w8, (w7.setCell ⟨s, 10, none⟩ (.int .i64 10)).drew = w8 := ⟨_, rfl⟩
    have hsm : ∀ b, b ≠ s → w8.heap[b]? = w7.heap[b]? := fun b h2 => by rw [← hw8]; exact RowKit.Below.heap_setCell _ _ _ _ h2
    have G : Hid (StB w8 s m1 m2 m3 m4 3 10) := Lib.hid (by rw [← hw8]; exact (G.out.setArea _).drew)
    have hb : Below B w w8 := by rw [← hw8]; exact (hb.setCell (by omega) _).drew
    have hz9 : w7.heap.size ≤ w8.heap.size := by rw [← hw8]; simp
    rw [hw8]
    clear hw8
    have q0 := (cell_same (hsm w.heap.size (by omega))).trans q0
    have q1 := (cell_same (hsm w.heap.size (by omega))).trans q1
    have q2 := (cell_same (hsm w.heap.size (by omega))).trans q2
    have q3 := (cell_same (hsm w.heap.size (by omega))).trans q3
    have q4 := (cell_same (hsm w.heap.size (by omega))).trans q4
    have q5 := (cell_same (hsm w.heap.size (by omega))).trans q5
    have q6 := (cell_same (hsm w.heap.size (by omega))).trans q6
    have q7 := (cell_same (hsm w.heap.size (by omega))).trans q7
    have k1 : Hid (MapIs w8 m1 #[] 0) := Lib.hid ((hsm m1 (by omega)).trans k1.out)
    have k2 : Hid (MapIs w8 m2 #[] 0) := Lib.hid ((hsm m2 (by omega)).trans k2.out)
    clear hsm
    have c5 := G.out.c5
    go_still_tail 26, (by kernel_rfl)
    still_call (cloneNil_any _)
    repeat still_step
    refine wpStill_nil ?_
    refine wpList_put_raw _ rfl _ _ _ 33 rfl 3 73 m1 #[] 0 (.int .i64 3) (.agg #[.int .i64 3, .int .i64 3, .int .i64 1, .int .i64 1, .int .i64 1, .int .i64 0, .int .i64 2, .int .i64 5, .slice none 0 0]) rfl k1.out.drew Tryz.underlying33 rfl rfl (ck_int Tryz.underlying3 _ _ _) (fk_int Tryz.underlying3 _ rfl _) ?_
    intro w9 hm9 hg9
    have hsm : ∀ b, b < w8.heap.size → b ≠ m1 → w9.heap[b]? = w8.heap[b]? := fun b h1 h2 => hg9.block b h1 (by simpa using h2)
    have G : StB w9 s m1 m2 m3 m4 3 10 := G.out.same (hsm s (by omega) (by omega))
    have k2 : MapIs w9 m2 #[] 0 := (hsm m2 (by omega) (by omega)).trans k2.out
    have hb : Below B w w9 := hb.drew.grown hg9 (by have := hb.size; simp; omega) (fun j hj => by cases hj; omega)
    clear hsm hg9
    go_wp2_with fail
    go_ret
    exact ⟨rfl, G, hm9, k2, hb⟩
end Go.Proofs.YthiaefhejdfobaaGreat
