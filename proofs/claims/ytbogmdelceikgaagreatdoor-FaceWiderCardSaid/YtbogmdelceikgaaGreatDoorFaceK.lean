/-
  The walk of readNumbers at one number below 100. By an AI agent.
-/
import Derived.Test.YtbogmdelceikgaaGreatDoorFaceJ
import Derived.Lib.SmallJoins
namespace Go.Proofs.YtbogmdelceikgaaGreatDoor
open Go.RowKit

theorem atoi_at (s : ByteArray) (v : Int) (w : World) (hs : s.size ≤ 9223372036854775806) (h : Lib.atoiAll s.data.toList = .ok v) :
    Calls Tryz.prog 40 #[.string s] w fun e w' => e = .returned (.tuple #[.int .i64 v, .nilIface]) ∧ Below w.heap.size w w' :=
  (Tryz.strconv_Atoi_ok s hs v h w).mono fun e w' ⟨he, hw⟩ => ⟨he, by
    rcases hw with rfl | ⟨t, rfl⟩
    · exact Below.refl _ _
    · exact Joins.below_bytesWorld _ _ _ _ (Nat.le_refl _)⟩

set_option maxRecDepth 100000 in
set_option maxHeartbeats 2000000 in
theorem readNumbers_one (t : ByteArray) (d : Nat) (cap pb blk off : Nat) (v0 : Value) (w : World) (hT : Tabs w) (hd : d < 100) (ht0 : 1 ≤ t.size) (ht : t.size ≤ 20)
    (hp : w.cell? ⟨pb, 0, none⟩ = some (.pointer (some ⟨blk, off, none⟩))) (hc : w.cell? ⟨blk, off, none⟩ = some v0) (hf : w.frozen? ⟨blk, off, none⟩ = false)
    (hs : Hid (Lib.splitB ⟨#[32]⟩ 0 1 t = [t])) (ha : Lib.atoiAll t.data.toList = .ok (d : Int)) (hd2 : Hid (((⟨(Lib.decDigits d).toArray⟩ : ByteArray).toList == t.toList) = true)) :
    Calls Tryz.prog 29 #[.string t, .slice (some ⟨pb, 0, none⟩) 1 cap] w fun e w' => e = .returned (.bool true) ∧ ∃ w1, Below w.heap.size w w1 ∧ w' = w1.setCell ⟨blk, off, none⟩ (.int .i64 d) := by
  have hbl := block_lt hc
  have hpl := block_lt hp
  have hmin : min 2 (t.size + 1) = 2 := by omega
  have HS : Hid (∀ W : World, Tabs W → Calls Tryz.prog 39 #[.string t, .string ⟨#[32]⟩, .int .i64 2] W fun e w' =>
      e = .returned (.slice (some ⟨W.heap.size, 0, none⟩) 1 2) ∧ w' = W.alloc (.cells #[.string t, .string ByteArray.empty] 9)) := Lib.hid fun W hW => by
    obtain ⟨m, hm⟩ := hW.maxlen
    have := Tryz.strings_SplitN t ⟨#[32]⟩ 2 m W (by omega) hm (by decide) (by decide) (by decide)
    rw [hmin, show (2 - 1) = 1 from rfl, hs.out] at this
    exact this
  have HA := Lib.hid (atoi_at t d · (by omega) ha)
  have hsz := hT.letters.1
  clear hs ha hmin
  go_enter Tryz.func29, Tryz.ntmps29
  go_wp2_with fail
  refine (HS.out w hT).mono ?_
  rintro e w' ⟨rfl, rfl⟩
  go_wp2_with fail
  refine wp_loop_rounds 2 ?_
  rw [rounds_succ]
  go_wp2_with fail
  refine (HA.out _).mono ?_
  rintro e w1 ⟨rfl, hb1⟩
  have hB1 : Below w.heap.size w w1 := ((Below.refl _ _).alloc (Nat.le_refl _) _).trans (hb1.mono (by simp <;> omega))
  have p1 := hB1.cell (p := ⟨pb, 0, none⟩) hpl
  have c1 := hB1.cell (p := ⟨blk, off, none⟩) hbl
  have f1 := hB1.frozen (p := ⟨blk, off, none⟩) hbl
  rw [hp] at p1
  rw [hc] at c1
  rw [hf] at f1
  go_wp2_with fail
  refine (Tryz.strconv_Itoa_small d hd _).mono ?_
  rintro e w2 ⟨rfl, rfl⟩
  have H2 := hd2.out
  generalize (⟨(Lib.decDigits d).toArray⟩ : ByteArray) = ds at *
  go_wp2_with fail
  rw [rounds_succ]
  go_wp2_with fail
  go_ret
  exact ⟨rfl, _, hB1, rfl⟩

set_option maxRecDepth 100000 in
set_option maxHeartbeats 2000000 in
theorem readHead_ex (w : World) (hT : Tabs w) :
    Calls Tryz.prog 18 #[.string ⟨#[114, 111, 117, 110, 100, 32, 54, 48]⟩] w fun e w' => e = .returned (.tuple #[.agg #[.int .i64 1, .int .i64 60, .int .i64 0, .slice none 0 0], .bool true]) ∧ Below w.heap.size w w' := by
  have hs := hT.letters.1
  have T1 := hT.below ((Below.refl _ _).alloc (Nat.le_refl _) (.cells #[.int .i64 0, .int .i64 0, .int .i64 0, .slice none 0 0] 28))
  have HC := Lib.hid (cut_at ⟨#[114, 111, 117, 110, 100, 32, 54, 48]⟩ ⟨#[32]⟩ ⟨#[114, 111, 117, 110, 100]⟩ ⟨#[54, 48]⟩ true _ T1 (by decide) (by decide))
  have HN : ∀ W, Tabs W → Hid (Calls Tryz.prog 27 #[.string ⟨#[114, 111, 117, 110, 100]⟩, .int .i64 6, .func (.func 28) #[] #[]] W fun e w' => e = .returned (.tuple #[.int .i64 1, .bool true]) ∧ W = w') := fun W hW => Lib.hid (numbered_shape _ 6 1 W hW (by decide) (by decide) (by decide) (Lib.hid (by rw [ByteArray.toList_eq, ByteArray.toList_eq]; decide)) (Lib.hid (fun n h1 h2 => by omega)))
  have T1' : ∀ n, Tabs ((w.alloc (.cells #[.int .i64 0, .int .i64 0, .int .i64 0, .slice none 0 0] 28)).drewN n) := fun n => T1.below (below_drewN (Below.refl _ _) _)
  have HN2 := Lib.hid HN
  clear HN T1
  go_enter Tryz.func18, Tryz.ntmps18
  go_wp2_with fail
  refine HC.out.mono ?_
  rintro e w1 ⟨rfl, ⟨n, rfl⟩⟩
  go_wp2_with fail
  refine (HN2.out _ (T1' n)).out.mono ?_
  rintro e w1 ⟨rfl, rfl⟩
  go_wp2_with fail
  refine (readNumbers_one _ 60 _ _ w.heap.size 1 (.int .i64 0) _ (hT.below ?hB) (by decide) (by decide) (by decide) ?hp ?hc ?hf (Lib.hid (by decide)) (by decide) (Lib.hid (by rw [ByteArray.toList_eq, ByteArray.toList_eq]; first | decide +kernel | (simp [Lib.decDigits]; done)))).mono ?_
  case hB => exact (((below_drewN ((Below.refl _ _).alloc (Nat.le_refl _) _) _).setCell (by simp) _).alloc (by simp <;> omega) _)
  case hp => simp [go_sem]
  case hc => simp [go_sem]
  case hf => simp [go_sem]
  rintro e w2 ⟨rfl, w1, hb1, rfl⟩
  have q0 := hb1.cell (p := ⟨w.heap.size, 0, none⟩) (by simp <;> omega)
  have q1 := hb1.cell (p := ⟨w.heap.size, 1, none⟩) (by simp <;> omega)
  have q2 := hb1.cell (p := ⟨w.heap.size, 2, none⟩) (by simp <;> omega)
  have q3 := hb1.cell (p := ⟨w.heap.size, 3, none⟩) (by simp <;> omega)
  have f0 := hb1.frozen (p := ⟨w.heap.size, 0, none⟩) (by simp <;> omega)
  have f1 := hb1.frozen (p := ⟨w.heap.size, 1, none⟩) (by simp <;> omega)
  have f2 := hb1.frozen (p := ⟨w.heap.size, 2, none⟩) (by simp <;> omega)
  have f3 := hb1.frozen (p := ⟨w.heap.size, 3, none⟩) (by simp <;> omega)
  simp [go_sem] at q0 q1 q2 q3 f0 f1 f2 f3
  go_wp2_with fail
  refine bodyPost_ret (v := .tuple #[.agg #[.int .i64 1, .int .i64 60, .int .i64 0, .slice none 0 0], .bool true]) (by simp [results, Tryz.results18, go_sem, q0, q1, q2, q3]) rfl ⟨rfl, ?_⟩
  have hB : Below w.heap.size w w1 := (((below_drewN ((Below.refl _ _).alloc (Nat.le_refl _) _) _).setCell (by simp) _).alloc (by simp <;> omega) _).trans (hb1.mono (by simp <;> omega))
  exact ((((hB.setCell (by simp) _).setCell (by simp) _).setCell (by simp) _).setCell (by simp) _).setCell (by simp) _

/-- The cells of a new item. -/
abbrev newItem : Obj := .cells #[.int .i64 0, .int .i64 0, .int .i64 0, .int .i64 0, .int .i64 0, .int .i64 0, .string ByteArray.empty] 33

set_option maxRecDepth 100000 in
set_option maxHeartbeats 2000000 in
theorem readItem_field (w : World) (hT : Tabs w) :
    Calls Tryz.prog 19 #[.string ⟨#[102, 105, 101, 108, 100, 32, 119, 104, 105, 116, 101]⟩] w fun e w' => e = .returned (.tuple #[.agg #[.int .i64 1, .int .i64 1, .int .i64 0, .int .i64 0, .int .i64 0, .int .i64 0, .string ByteArray.empty], .bool true]) ∧ Below w.heap.size w w' := by
  have hs := hT.letters.1
  have H1 : Hid (∀ W, Tabs W → Calls Tryz.prog 17 #[.string ⟨#[102, 105, 101, 108, 100, 32, 119, 104, 105, 116, 101]⟩, .string ⟨#[32]⟩] W fun e w' => e = .returned (.tuple #[.string ⟨#[102, 105, 101, 108, 100]⟩, .string ⟨#[119, 104, 105, 116, 101]⟩, .bool true]) ∧ ∃ n, w' = W.drewN n) := Lib.hid fun W hW => cut_at _ _ _ _ _ W hW (by decide) (by decide)
  have H2 : Hid (∀ W, Tabs W → Calls Tryz.prog 27 #[.string ⟨#[102, 105, 101, 108, 100]⟩, .int .i64 6, .func (.func 30) #[] #[]] W fun e w' => e = .returned (.tuple #[.int .i64 1, .bool true]) ∧ W = w') := Lib.hid fun W hW => numbered_kind _ 6 1 W hW (by decide) (by decide) (by decide) (Lib.hid (by rw [ByteArray.toList_eq, ByteArray.toList_eq]; decide)) (Lib.hid (fun n h1 h2 => by omega))
  have H3 : Hid (∀ W, Tabs W → Calls Tryz.prog 17 #[.string ⟨#[119, 104, 105, 116, 101]⟩, .string ⟨#[32, 97, 116, 32]⟩] W fun e w' => e = .returned (.tuple #[.string ⟨#[119, 104, 105, 116, 101]⟩, .string ⟨#[]⟩, .bool false]) ∧ ∃ n, w' = W.drewN n) := Lib.hid fun W hW => cut_at _ _ _ _ _ W hW (by decide) (by decide)
  have H4 : Hid (∀ W, Tabs W → Calls Tryz.prog 17 #[.string ⟨#[119, 104, 105, 116, 101]⟩, .string ⟨#[32]⟩] W fun e w' => e = .returned (.tuple #[.string ⟨#[119, 104, 105, 116, 101]⟩, .string ⟨#[]⟩, .bool false]) ∧ ∃ n, w' = W.drewN n) := Lib.hid fun W hW => cut_at _ _ _ _ _ W hW (by decide) (by decide)
  have H5 : Hid (∀ W, Tabs W → Calls Tryz.prog 27 #[.string ⟨#[119, 104, 105, 116, 101]⟩, .int .i64 8, .func (.func 32) #[] #[]] W fun e w' => e = .returned (.tuple #[.int .i64 1, .bool true]) ∧ Below W.heap.size W w') := Lib.hid fun W hW => (numbered_colour _ 8 1 W hW (by decide) (by decide) (by decide) (Lib.hid (by rw [ByteArray.toList_eq, ByteArray.toList_eq]; decide)) (Lib.hid (fun n h1 h2 => by omega))).mono fun e w' h => ⟨h.1, h.2 ▸ Below.refl _ _⟩
  have HT := Lib.hid hT
  have hK := fun ob => (hT.below ((Below.refl w.heap.size w).alloc (Nat.le_refl _) ob)).kinds.2 1 (by decide)
  have k0 : ∀ ob, (w.alloc ob).cell? ⟨0, 4, none⟩ = some (.string ⟨(kNames.getD 1 []).toArray⟩) := fun ob => (hK ob).1
  have k1 : ∀ ob, (w.alloc ob).cell? ⟨0, 5, none⟩ = some (.int .i64 0) := fun ob => (hK ob).2.1
  have k2 : ∀ ob, (w.alloc ob).cell? ⟨0, 6, none⟩ = some (.bool false) := fun ob => (hK ob).2.2.1
  have k3 : ∀ ob, (w.alloc ob).cell? ⟨0, 7, none⟩ = some (.bool false) := fun ob => (hK ob).2.2.2
  clear hK
  go_enter Tryz.func19, Tryz.ntmps19
  go_wp2_with fail
  refine (H1.out _ (HT.out.below ((Below.refl _ _).alloc (Nat.le_refl _) _))).mono ?_
  rintro e w1 ⟨rfl, ⟨n, rfl⟩⟩
  go_wp2_with fail
  refine (H2.out _ (HT.out.below (below_drewN ((Below.refl _ _).alloc (Nat.le_refl _) _) _))).mono ?_
  rintro e w1 ⟨rfl, rfl⟩
  go_wp2_with fail
  refine (H3.out _ (HT.out.below (by repeat' (first | (with_reducible exact Below.refl _ _) | (with_reducible refine below_drewN ?_ _) | (with_reducible refine Below.setCell ?_ ?_ _) | (with_reducible refine Below.alloc ?_ ?_ _) | (simp; done) | (simp; omega))))).mono ?_
  rintro e w1 ⟨rfl, ⟨n2, rfl⟩⟩
  go_wp2_with fail
  refine (H4.out _ (HT.out.below (by repeat' (first | (with_reducible exact Below.refl _ _) | (with_reducible refine below_drewN ?_ _) | (with_reducible refine Below.setCell ?_ ?_ _) | (with_reducible refine Below.alloc ?_ ?_ _) | (simp; done) | (simp; omega))))).mono ?_
  rintro e w1 ⟨rfl, ⟨n3, rfl⟩⟩
  go_wp2_with fail
  refine (H5.out _ (HT.out.below (by repeat' (first | (with_reducible exact Below.refl _ _) | (with_reducible refine below_drewN ?_ _) | (with_reducible refine Below.setCell ?_ ?_ _) | (with_reducible refine Below.alloc ?_ ?_ _) | (simp; done) | (simp; omega))))).mono ?_
  rintro e w5 ⟨rfl, hb5⟩
  have q0 := hb5.cell (p := ⟨w.heap.size, 0, none⟩) (by simp <;> omega)
  have f0 := hb5.frozen (p := ⟨w.heap.size, 0, none⟩) (by simp <;> omega)
  have q1 := hb5.cell (p := ⟨w.heap.size, 1, none⟩) (by simp <;> omega)
  have f1 := hb5.frozen (p := ⟨w.heap.size, 1, none⟩) (by simp <;> omega)
  have q2 := hb5.cell (p := ⟨w.heap.size, 2, none⟩) (by simp <;> omega)
  have f2 := hb5.frozen (p := ⟨w.heap.size, 2, none⟩) (by simp <;> omega)
  have q3 := hb5.cell (p := ⟨w.heap.size, 3, none⟩) (by simp <;> omega)
  have f3 := hb5.frozen (p := ⟨w.heap.size, 3, none⟩) (by simp <;> omega)
  have q4 := hb5.cell (p := ⟨w.heap.size, 4, none⟩) (by simp <;> omega)
  have f4 := hb5.frozen (p := ⟨w.heap.size, 4, none⟩) (by simp <;> omega)
  have q5 := hb5.cell (p := ⟨w.heap.size, 5, none⟩) (by simp <;> omega)
  have f5 := hb5.frozen (p := ⟨w.heap.size, 5, none⟩) (by simp <;> omega)
  have q6 := hb5.cell (p := ⟨w.heap.size, 6, none⟩) (by simp <;> omega)
  have f6 := hb5.frozen (p := ⟨w.heap.size, 6, none⟩) (by simp <;> omega)
  simp [go_sem] at q0 q1 q2 q3 q4 q5 q6 f0 f1 f2 f3 f4 f5 f6
  have hB5 : Below w.heap.size w w5 := Below.trans (by repeat' (first | (with_reducible exact Below.refl _ _) | (with_reducible refine below_drewN ?_ _) | (with_reducible refine Below.setCell ?_ ?_ _) | (with_reducible refine Below.alloc ?_ ?_ _) | (simp; done) | (simp; omega))) (hb5.mono (by simp <;> omega))
  go_wp2_with fail
  refine bodyPost_ret (v := .tuple #[.agg #[.int .i64 1, .int .i64 1, .int .i64 0, .int .i64 0, .int .i64 0, .int .i64 0, .string ByteArray.empty], .bool true]) (by simp [results, Tryz.results19, go_sem, q0, q1, q2, q3, q4, q5, q6]; rfl) rfl ⟨rfl, ?_⟩
  exact (((((((hB5.setCell (by simp) _).setCell (by simp) _).setCell (by simp) _).setCell (by simp) _).setCell (by simp) _).setCell (by simp) _).setCell (by simp) _).setCell (by simp) _

set_option maxRecDepth 100000 in
set_option maxHeartbeats 2000000 in
theorem readItem_rim (w : World) (hT : Tabs w) :
    Calls Tryz.prog 19 #[.string ⟨#[114, 105, 109, 32, 114, 101, 100, 32, 56]⟩] w fun e w' => e = .returned (.tuple #[.agg #[.int .i64 2, .int .i64 4, .int .i64 0, .int .i64 0, .int .i64 8, .int .i64 0, .string ByteArray.empty], .bool true]) ∧ Below w.heap.size w w' := by
  have hs := hT.letters.1
  have H1 : Hid (∀ W, Tabs W → Calls Tryz.prog 17 #[.string ⟨#[114, 105, 109, 32, 114, 101, 100, 32, 56]⟩, .string ⟨#[32]⟩] W fun e w' => e = .returned (.tuple #[.string ⟨#[114, 105, 109]⟩, .string ⟨#[114, 101, 100, 32, 56]⟩, .bool true]) ∧ ∃ n, w' = W.drewN n) := Lib.hid fun W hW => cut_at _ _ _ _ _ W hW (by decide) (by decide)
  have H2 : Hid (∀ W, Tabs W → Calls Tryz.prog 27 #[.string ⟨#[114, 105, 109]⟩, .int .i64 6, .func (.func 30) #[] #[]] W fun e w' => e = .returned (.tuple #[.int .i64 2, .bool true]) ∧ W = w') := Lib.hid fun W hW => numbered_kind _ 6 2 W hW (by decide) (by decide) (by decide) (Lib.hid (by rw [ByteArray.toList_eq, ByteArray.toList_eq]; decide)) (Lib.hid (fun n h1 h2 => by obtain rfl : n = 1 := (by omega); rw [ByteArray.toList_eq, ByteArray.toList_eq]; decide))
  have H3 : Hid (∀ W, Tabs W → Calls Tryz.prog 17 #[.string ⟨#[114, 101, 100, 32, 56]⟩, .string ⟨#[32, 97, 116, 32]⟩] W fun e w' => e = .returned (.tuple #[.string ⟨#[114, 101, 100, 32, 56]⟩, .string ⟨#[]⟩, .bool false]) ∧ ∃ n, w' = W.drewN n) := Lib.hid fun W hW => cut_at _ _ _ _ _ W hW (by decide) (by decide)
  have H4 : Hid (∀ W, Tabs W → Calls Tryz.prog 17 #[.string ⟨#[114, 101, 100, 32, 56]⟩, .string ⟨#[32]⟩] W fun e w' => e = .returned (.tuple #[.string ⟨#[114, 101, 100]⟩, .string ⟨#[56]⟩, .bool true]) ∧ ∃ n, w' = W.drewN n) := Lib.hid fun W hW => cut_at _ _ _ _ _ W hW (by decide) (by decide)
  have H5 : Hid (∀ W, Tabs W → Calls Tryz.prog 27 #[.string ⟨#[114, 101, 100]⟩, .int .i64 8, .func (.func 32) #[] #[]] W fun e w' => e = .returned (.tuple #[.int .i64 4, .bool true]) ∧ Below W.heap.size W w') := Lib.hid fun W hW => (numbered_colour _ 8 4 W hW (by decide) (by decide) (by decide) (Lib.hid (by rw [ByteArray.toList_eq, ByteArray.toList_eq]; decide)) (Lib.hid (fun n h1 h2 => by rcases (show n = 1 ∨ n = 2 ∨ n = 3 by omega) with rfl | rfl | rfl <;> (rw [ByteArray.toList_eq, ByteArray.toList_eq]; decide)))).mono fun e w' h => ⟨h.1, h.2 ▸ Below.refl _ _⟩
  have HT := Lib.hid hT
  have hK := fun ob => (hT.below ((Below.refl w.heap.size w).alloc (Nat.le_refl _) ob)).kinds.2 2 (by decide)
  have k0 : ∀ ob, (w.alloc ob).cell? ⟨0, 8, none⟩ = some (.string ⟨(kNames.getD 2 []).toArray⟩) := fun ob => (hK ob).1
  have k1 : ∀ ob, (w.alloc ob).cell? ⟨0, 9, none⟩ = some (.int .i64 1) := fun ob => (hK ob).2.1
  have k2 : ∀ ob, (w.alloc ob).cell? ⟨0, 10, none⟩ = some (.bool false) := fun ob => (hK ob).2.2.1
  have k3 : ∀ ob, (w.alloc ob).cell? ⟨0, 11, none⟩ = some (.bool false) := fun ob => (hK ob).2.2.2
  clear hK
  go_enter Tryz.func19, Tryz.ntmps19
  go_wp2_with fail
  refine (H1.out _ (HT.out.below ((Below.refl _ _).alloc (Nat.le_refl _) _))).mono ?_
  rintro e w1 ⟨rfl, ⟨n, rfl⟩⟩
  go_wp2_with fail
  refine (H2.out _ (HT.out.below (below_drewN ((Below.refl _ _).alloc (Nat.le_refl _) _) _))).mono ?_
  rintro e w1 ⟨rfl, rfl⟩
  go_wp2_with fail
  refine (H3.out _ (HT.out.below (by repeat' (first | (with_reducible exact Below.refl _ _) | (with_reducible refine below_drewN ?_ _) | (with_reducible refine Below.setCell ?_ ?_ _) | (with_reducible refine Below.alloc ?_ ?_ _) | (simp; done) | (simp; omega))))).mono ?_
  rintro e w1 ⟨rfl, ⟨n2, rfl⟩⟩
  go_wp2_with fail
  refine (H4.out _ (HT.out.below (by repeat' (first | (with_reducible exact Below.refl _ _) | (with_reducible refine below_drewN ?_ _) | (with_reducible refine Below.setCell ?_ ?_ _) | (with_reducible refine Below.alloc ?_ ?_ _) | (simp; done) | (simp; omega))))).mono ?_
  rintro e w1 ⟨rfl, ⟨n3, rfl⟩⟩
  go_wp2_with fail
  refine (readNumbers_one _ 8 _ _ w.heap.size 4 (.int .i64 0) _ (HT.out.below ?hB) (by decide) (by decide) (by decide) ?hp ?hc ?hf (Lib.hid (by decide)) (by decide) (Lib.hid (by rw [ByteArray.toList_eq, ByteArray.toList_eq]; first | decide +kernel | (simp [Lib.decDigits]; done)))).mono ?_
  case hB => exact (by repeat' (first | (with_reducible exact Below.refl _ _) | (with_reducible refine below_drewN ?_ _) | (with_reducible refine Below.setCell ?_ ?_ _) | (with_reducible refine Below.alloc ?_ ?_ _) | (simp; done) | (simp; omega)))
  case hp => simp [go_sem]
  case hc => simp [go_sem]
  case hf => simp [go_sem]
  rintro e w2 ⟨rfl, w1, hb1, rfl⟩
  have hs1 := hb1.size
  have g0 := hb1.cell (p := ⟨w.heap.size, 0, none⟩) (by simp <;> omega)
  have e0 := hb1.frozen (p := ⟨w.heap.size, 0, none⟩) (by simp <;> omega)
  have g1 := hb1.cell (p := ⟨w.heap.size, 1, none⟩) (by simp <;> omega)
  have e1 := hb1.frozen (p := ⟨w.heap.size, 1, none⟩) (by simp <;> omega)
  have g2 := hb1.cell (p := ⟨w.heap.size, 2, none⟩) (by simp <;> omega)
  have e2 := hb1.frozen (p := ⟨w.heap.size, 2, none⟩) (by simp <;> omega)
  have g3 := hb1.cell (p := ⟨w.heap.size, 3, none⟩) (by simp <;> omega)
  have e3 := hb1.frozen (p := ⟨w.heap.size, 3, none⟩) (by simp <;> omega)
  have g4 := hb1.cell (p := ⟨w.heap.size, 4, none⟩) (by simp <;> omega)
  have e4 := hb1.frozen (p := ⟨w.heap.size, 4, none⟩) (by simp <;> omega)
  have g5 := hb1.cell (p := ⟨w.heap.size, 5, none⟩) (by simp <;> omega)
  have e5 := hb1.frozen (p := ⟨w.heap.size, 5, none⟩) (by simp <;> omega)
  have g6 := hb1.cell (p := ⟨w.heap.size, 6, none⟩) (by simp <;> omega)
  have e6 := hb1.frozen (p := ⟨w.heap.size, 6, none⟩) (by simp <;> omega)
  simp [go_sem] at g0 g1 g2 g3 g4 g5 g6 e0 e1 e2 e3 e4 e5 e6 hs1
  have kk1 := hb1.cell (p := ⟨w.heap.size + 1, 1, none⟩) (by simp <;> omega)
  simp [go_sem] at kk1
  have hB1 : Below w.heap.size w w1 := Below.trans (by repeat' (first | (with_reducible exact Below.refl _ _) | (with_reducible refine below_drewN ?_ _) | (with_reducible refine Below.setCell ?_ ?_ _) | (with_reducible refine Below.alloc ?_ ?_ _) | (simp; done) | (simp; omega))) (hb1.mono (by simp <;> omega))
  go_wp2_with fail
  refine (H5.out _ (HT.out.below (hB1.setCell (by simp) _))).mono ?_
  rintro e w5 ⟨rfl, hb5⟩
  have q0 := hb5.cell (p := ⟨w.heap.size, 0, none⟩) (by rw [World.size_setCell]; show w.heap.size < w1.heap.size; omega)
  have f0 := hb5.frozen (p := ⟨w.heap.size, 0, none⟩) (by rw [World.size_setCell]; show w.heap.size < w1.heap.size; omega)
  have q1 := hb5.cell (p := ⟨w.heap.size, 1, none⟩) (by rw [World.size_setCell]; show w.heap.size < w1.heap.size; omega)
  have f1 := hb5.frozen (p := ⟨w.heap.size, 1, none⟩) (by rw [World.size_setCell]; show w.heap.size < w1.heap.size; omega)
  have q2 := hb5.cell (p := ⟨w.heap.size, 2, none⟩) (by rw [World.size_setCell]; show w.heap.size < w1.heap.size; omega)
  have f2 := hb5.frozen (p := ⟨w.heap.size, 2, none⟩) (by rw [World.size_setCell]; show w.heap.size < w1.heap.size; omega)
  have q3 := hb5.cell (p := ⟨w.heap.size, 3, none⟩) (by rw [World.size_setCell]; show w.heap.size < w1.heap.size; omega)
  have f3 := hb5.frozen (p := ⟨w.heap.size, 3, none⟩) (by rw [World.size_setCell]; show w.heap.size < w1.heap.size; omega)
  have q4 := hb5.cell (p := ⟨w.heap.size, 4, none⟩) (by rw [World.size_setCell]; show w.heap.size < w1.heap.size; omega)
  have f4 := hb5.frozen (p := ⟨w.heap.size, 4, none⟩) (by rw [World.size_setCell]; show w.heap.size < w1.heap.size; omega)
  have q5 := hb5.cell (p := ⟨w.heap.size, 5, none⟩) (by rw [World.size_setCell]; show w.heap.size < w1.heap.size; omega)
  have f5 := hb5.frozen (p := ⟨w.heap.size, 5, none⟩) (by rw [World.size_setCell]; show w.heap.size < w1.heap.size; omega)
  have q6 := hb5.cell (p := ⟨w.heap.size, 6, none⟩) (by rw [World.size_setCell]; show w.heap.size < w1.heap.size; omega)
  have f6 := hb5.frozen (p := ⟨w.heap.size, 6, none⟩) (by rw [World.size_setCell]; show w.heap.size < w1.heap.size; omega)
  simp [go_sem, g0, g1, g2, g3, g4, g5, g6, e0, e1, e2, e3, e4, e5, e6] at q0 q1 q2 q3 q4 q5 q6 f0 f1 f2 f3 f4 f5 f6
  have hB5 : Below w.heap.size w w5 := Below.trans (hB1.setCell (by simp) _) (hb5.mono (by rw [World.size_setCell]; omega))
  clear g0 g1 g2 g3 g4 g5 g6 e0 e1 e2 e3 e4 e5 e6
  go_wp2_with fail
  refine bodyPost_ret (v := .tuple #[.agg #[.int .i64 2, .int .i64 4, .int .i64 0, .int .i64 0, .int .i64 8, .int .i64 0, .string ByteArray.empty], .bool true]) (by simp [results, Tryz.results19, go_sem, q0, q1, q2, q3, q4, q5, q6]; rfl) rfl ⟨rfl, ?_⟩
  exact (((((((hB5.setCell (by simp) _).setCell (by simp) _).setCell (by simp) _).setCell (by simp) _).setCell (by simp) _).setCell (by simp) _).setCell (by simp) _).setCell (by simp) _
end Go.Proofs.YtbogmdelceikgaaGreatDoor
