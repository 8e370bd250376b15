/-
  The methods of a nil store and of a zero store. By an AI agent.
-/
import Derived.Test.YthiaefhejdfobaaGreatSheF
import Derived.Deep.RegionHeld3
import Derived.BigQuiet
import Derived.Deep.DeepCutAuto
namespace Go.Proofs.YthiaefhejdfobaaGreat
set_option linter.unusedVariables false
set_option linter.unusedSimpArgs false
open Go.RowKit

/-- No store, or a zero one. -/
def NilP (w : World) (p : Option Addr) : Prop := p = none ∨ ∃ z, p = some ⟨z, 0, none⟩ ∧ w.cell? ⟨z, 0, none⟩ = some (.int .i64 0) ∧ w.cell? ⟨z, 1, none⟩ = some (.int .i64 0) ∧ w.cell? ⟨z, 2, none⟩ = some (.int .i64 0) ∧ w.cell? ⟨z, 3, none⟩ = some (.int .i64 0) ∧ w.cell? ⟨z, 4, none⟩ = some (.int .i64 0)
theorem NilP.below {w w' : World} {p : Option Addr} (h : NilP w p) (hb : Below w.heap.size w w') : NilP w' p := by
  rcases h with h | ⟨z, h, c0, c1, c2, c3, c4⟩
  · exact .inl h
  · exact .inr ⟨z, h, cell_below c0 hb, cell_below c1 hb, cell_below c2 hb, cell_below c3 hb, cell_below c4 hb⟩
set_option maxRecDepth 100000 in
theorem missN (p : Option Addr) (w : World) (h : NilP w p) : Calls Tryz.prog 18 #[.pointer p] w fun e w' => e = .returned (.bool true) ∧ w = w' := by
  rcases h with rfl | ⟨z, rfl, c0, c1, c2, c3, c4⟩
  · go_enter Tryz.func18, Tryz.ntmps18
    go_wp2_with fail
    go_ret
    exact ⟨rfl, rfl⟩
  · have he : ∀ w : World, (binOp .eql 32 (.agg #[.int .i64 0, .int .i64 0, .int .i64 0, .int .i64 0, .int .i64 0]) (.agg #[.int .i64 0, .int .i64 0, .int .i64 0, .int .i64 0, .int .i64 0])).run Tryz.prog w = .ok (.bool true) w := fun _ => by kernel_rfl
    go_enter Tryz.func18, Tryz.ntmps18
    go_wp2_with fail
    go_ret
    exact ⟨rfl, rfl⟩
theorem nilLots (p : Option Addr) (n0 n1 n2 n3 n4 : Int) (d : Int) (w : World) (h : NilP w p) : Calls Tryz.prog 4 #[.pointer p, .agg #[.int .i64 n0, .int .i64 n1, .int .i64 n2, .int .i64 n3, .int .i64 n4], .int .i64 d] w fun e w' => e = .returned (.tuple #[.slice none 0 0, .int .i64 2]) ∧ Below w.heap.size w w' := by
  have H := Lib.hid (fun W (hW : Below w.heap.size w W) => missN p W (h.below hW))
  clear h
  go_enter Tryz.func4, Tryz.ntmps4
  go_wp2_with fail
  refine (H.out _ ((Below.refl _ _).alloc (Nat.le_refl _) _)).mono ?_
  rintro e w1 ⟨rfl, rfl⟩
  go_wp2_with fail
  go_ret2
  exact ⟨rfl, ((Below.refl _ _).alloc (Nat.le_refl _) _)⟩
theorem nilTake (p : Option Addr) (n0 n1 n2 n3 n4 : Int) (d : Int) (w : World) (h : NilP w p) : Calls Tryz.prog 5 #[.pointer p, .agg #[.int .i64 n0, .int .i64 n1, .int .i64 n2, .int .i64 n3, .int .i64 n4], .int .i64 d] w fun e w' => e = .returned (.tuple #[.slice none 0 0, .int .i64 2]) ∧ Below w.heap.size w w' := by
  have H := Lib.hid (fun W (hW : Below w.heap.size w W) => missN p W (h.below hW))
  clear h
  go_enter Tryz.func5, Tryz.ntmps5
  go_wp2_with fail
  refine (H.out _ ((Below.refl _ _).alloc (Nat.le_refl _) _)).mono ?_
  rintro e w1 ⟨rfl, rfl⟩
  go_wp2_with fail
  go_ret2
  exact ⟨rfl, ((Below.refl _ _).alloc (Nat.le_refl _) _)⟩
theorem nilExpire (p : Option Addr) (d : Int) (w : World) (h : NilP w p) : Calls Tryz.prog 6 #[.pointer p, .int .i64 d] w fun e w' => e = .returned (.tuple #[.slice none 0 0, .int .i64 2]) ∧ w = w' := by
  have H := Lib.hid (fun W (hW : Below w.heap.size w W) => missN p W (h.below hW))
  clear h
  go_enter Tryz.func6, Tryz.ntmps6
  go_wp2_with fail
  refine (H.out _ (Below.refl _ _)).mono ?_
  rintro e w1 ⟨rfl, rfl⟩
  go_wp2_with fail
  go_ret2
  exact ⟨rfl, rfl⟩
theorem nilRecall (p : Option Addr) (d : Int) (w : World) (h : NilP w p) : Calls Tryz.prog 7 #[.pointer p, .int .i64 d] w fun e w' => e = .returned (.tuple #[.slice none 0 0, .int .i64 2]) ∧ w = w' := by
  have H := Lib.hid (fun W (hW : Below w.heap.size w W) => missN p W (h.below hW))
  clear h
  go_enter Tryz.func7, Tryz.ntmps7
  go_wp2_with fail
  refine (H.out _ (Below.refl _ _)).mono ?_
  rintro e w1 ⟨rfl, rfl⟩
  go_wp2_with fail
  go_ret2
  exact ⟨rfl, rfl⟩
theorem nilTrace (p : Option Addr) (d : Int) (w : World) (h : NilP w p) : Calls Tryz.prog 8 #[.pointer p, .int .i64 d] w fun e w' => e = .returned (.tuple #[.slice none 0 0, .int .i64 2]) ∧ w = w' := by
  have H := Lib.hid (fun W (hW : Below w.heap.size w W) => missN p W (h.below hW))
  clear h
  go_enter Tryz.func8, Tryz.ntmps8
  go_wp2_with fail
  refine (H.out _ (Below.refl _ _)).mono ?_
  rintro e w1 ⟨rfl, rfl⟩
  go_wp2_with fail
  go_ret2
  exact ⟨rfl, rfl⟩
theorem nilReceive (p : Option Addr) (i0 i1 i2 i3 i4 i5 i6 : Int) (ra : Option Addr) (rn rc : Nat) (w : World) (h : NilP w p) : Calls Tryz.prog 9 #[.pointer p, .agg #[.int .i64 i0, .int .i64 i1, .int .i64 i2, .int .i64 i3, .int .i64 i4, .int .i64 i5, .int .i64 i6, .slice ra rn rc]] w fun e w' => e = .returned (.int .i64 2) ∧ Below w.heap.size w w' := by
  have H := Lib.hid (fun W (hW : Below w.heap.size w W) => missN p W (h.below hW))
  clear h
  go_enter Tryz.func9, Tryz.ntmps9
  go_wp2_with fail
  refine (H.out _ ((Below.refl _ _).alloc (Nat.le_refl _) _)).mono ?_
  rintro e w1 ⟨rfl, rfl⟩
  go_wp2_with fail
  go_ret
  exact ⟨rfl, ((Below.refl _ _).alloc (Nat.le_refl _) _)⟩
theorem nilUse (p : Option Addr) (d x : Int) (w : World) (h : NilP w p) : Calls Tryz.prog 10 #[.pointer p, .int .i64 d, .int .i64 x] w fun e w' => e = .returned (.int .i64 2) ∧ w = w' := by
  have H := Lib.hid (fun W (hW : Below w.heap.size w W) => missN p W (h.below hW))
  clear h
  go_enter Tryz.func10, Tryz.ntmps10
  go_wp2_with fail
  refine (H.out _ (Below.refl _ _)).mono ?_
  rintro e w1 ⟨rfl, rfl⟩
  go_wp2_with fail
  go_ret
  exact ⟨rfl, rfl⟩
theorem nilReturn (p : Option Addr) (d : Int) (w : World) (h : NilP w p) : Calls Tryz.prog 11 #[.pointer p, .int .i64 d] w fun e w' => e = .returned (.int .i64 2) ∧ w = w' := by
  have H := Lib.hid (fun W (hW : Below w.heap.size w W) => missN p W (h.below hW))
  clear h
  go_enter Tryz.func11, Tryz.ntmps11
  go_wp2_with fail
  refine (H.out _ (Below.refl _ _)).mono ?_
  rintro e w1 ⟨rfl, rfl⟩
  go_wp2_with fail
  go_ret
  exact ⟨rfl, rfl⟩
theorem nilScrap (p : Option Addr) (d : Int) (w : World) (h : NilP w p) : Calls Tryz.prog 12 #[.pointer p, .int .i64 d] w fun e w' => e = .returned (.int .i64 2) ∧ w = w' := by
  have H := Lib.hid (fun W (hW : Below w.heap.size w W) => missN p W (h.below hW))
  clear h
  go_enter Tryz.func12, Tryz.ntmps12
  go_wp2_with fail
  refine (H.out _ (Below.refl _ _)).mono ?_
  rintro e w1 ⟨rfl, rfl⟩
  go_wp2_with fail
  go_ret
  exact ⟨rfl, rfl⟩
theorem nilItems (p : Option Addr)  (w : World) (h : NilP w p) : Calls Tryz.prog 13 #[.pointer p] w fun e w' => e = .returned (.slice none 0 0) ∧ w = w' := by
  have H := Lib.hid (fun W (hW : Below w.heap.size w W) => missN p W (h.below hW))
  clear h
  go_enter Tryz.func13, Tryz.ntmps13
  go_wp2_with fail
  refine (H.out _ (Below.refl _ _)).mono ?_
  rintro e w1 ⟨rfl, rfl⟩
  go_wp2_with fail
  go_ret
  exact ⟨rfl, rfl⟩
theorem nilPieces (p : Option Addr)  (w : World) (h : NilP w p) : Calls Tryz.prog 14 #[.pointer p] w fun e w' => e = .returned (.slice none 0 0) ∧ w = w' := by
  have H := Lib.hid (fun W (hW : Below w.heap.size w W) => missN p W (h.below hW))
  clear h
  go_enter Tryz.func14, Tryz.ntmps14
  go_wp2_with fail
  refine (H.out _ (Below.refl _ _)).mono ?_
  rintro e w1 ⟨rfl, rfl⟩
  go_wp2_with fail
  go_ret
  exact ⟨rfl, rfl⟩
theorem nilCopy (p : Option Addr)  (w : World) (h : NilP w p) : Calls Tryz.prog 16 #[.pointer p] w fun e w' => e = .returned (.pointer none) ∧ w = w' := by
  have H := Lib.hid (fun W (hW : Below w.heap.size w W) => missN p W (h.below hW))
  clear h
  go_enter Tryz.func16, Tryz.ntmps16
  go_wp2_with fail
  refine (H.out _ (Below.refl _ _)).mono ?_
  rintro e w1 ⟨rfl, rfl⟩
  go_wp2_with fail
  go_ret
  exact ⟨rfl, rfl⟩
set_option maxHeartbeats 1000000 in
theorem nilBalance (p : Option Addr) (w : World) (h : NilP w p) : Calls Tryz.prog 15 #[.pointer p] w fun e w' => e = .returned (.agg #[.int .i64 0, .int .i64 0, .int .i64 0, .int .i64 0, .int .i64 0]) ∧ Below w.heap.size w w' := by
  have H := Lib.hid (fun W (hW : Below w.heap.size w W) => missN p W (h.below hW))
  clear h
  obtain ⟨wB, hwB⟩ : ∃ wB, w.alloc (.cells #[.int .i64 0, .int .i64 0, .int .i64 0, .int .i64 0, .int .i64 0] 56) = wB := ⟨_, rfl⟩
  have hb : Below w.heap.size w wB := by rw [← hwB]; exact (Below.refl _ _).alloc (Nat.le_refl _) _
  have o0 : wB.cell? ⟨w.heap.size, 0, none⟩ = some (.int .i64 0) := by rw [← hwB]; simp [go_sem]
  have u0 : wB.frozen? ⟨w.heap.size, 0, none⟩ = false := by rw [← hwB]; simp [go_sem]
  have o1 : wB.cell? ⟨w.heap.size, 1, none⟩ = some (.int .i64 0) := by rw [← hwB]; simp [go_sem]
  have u1 : wB.frozen? ⟨w.heap.size, 1, none⟩ = false := by rw [← hwB]; simp [go_sem]
  have o2 : wB.cell? ⟨w.heap.size, 2, none⟩ = some (.int .i64 0) := by rw [← hwB]; simp [go_sem]
  have u2 : wB.frozen? ⟨w.heap.size, 2, none⟩ = false := by rw [← hwB]; simp [go_sem]
  have o3 : wB.cell? ⟨w.heap.size, 3, none⟩ = some (.int .i64 0) := by rw [← hwB]; simp [go_sem]
  have u3 : wB.frozen? ⟨w.heap.size, 3, none⟩ = false := by rw [← hwB]; simp [go_sem]
  have o4 : wB.cell? ⟨w.heap.size, 4, none⟩ = some (.int .i64 0) := by rw [← hwB]; simp [go_sem]
  have u4 : wB.frozen? ⟨w.heap.size, 4, none⟩ = false := by rw [← hwB]; simp [go_sem]
  go_enter Tryz.func15, Tryz.ntmps15
  go_wp2_with fail
  clear hwB
  refine (H.out _ hb).mono ?_
  rintro e w1 ⟨rfl, rfl⟩
  go_wp2_with fail
  obtain ⟨wz, hwz, x0, x1, x2, x3, x4, hbz⟩ := set5 _ w.heap.size (.int .i64 0) (.int .i64 0) (.int .i64 0) (.int .i64 0) (.int .i64 0) (five (isSome_of o0) (isSome_of o1) (isSome_of o2) (isSome_of o3) (isSome_of o4))
  have hb := hbz w.heap.size w (Nat.le_refl _) hb
  rw [hwz]
  clear hwz
  refine bodyPost_ret (v := .agg #[.int .i64 0, .int .i64 0, .int .i64 0, .int .i64 0, .int .i64 0]) (by simp [results, Tryz.results15, go_sem, x0, x1, x2, x3, x4]) rfl ⟨rfl, hb⟩
end Go.Proofs.YthiaefhejdfobaaGreat
