/-
  The walk of Parse at the chapter's first example. By an AI agent.
-/
import Derived.Test.YtbogmdelceikgaaGreatDoorFaceK
import Derived.Laws.AppendOwn
namespace Go.Proofs.YtbogmdelceikgaaGreatDoor
open Go.RowKit

/-- The text of the example. -/
def exText : ByteArray := ⟨#[114, 111, 117, 110, 100, 32, 54, 48, 58, 32, 102, 105, 101, 108, 100, 32, 119, 104, 105, 116, 101, 59, 32, 114, 105, 109, 32, 114, 101, 100, 32, 56]⟩
theorem itemInfo : (Tryz.prog.info? 33).map (fun i => (i.zero, i.size, i.bytes)) = some (some (.agg #[.int .i64 0, .int .i64 0, .int .i64 0, .int .i64 0, .int .i64 0, .int .i64 0, .string ByteArray.empty]), 7, 64) := by kernel_rfl
/-- The cells of a new face. -/
abbrev newFace : Obj := .cells #[.int .i64 0, .int .i64 0, .int .i64 0, .slice none 0 0] 28
abbrev headFace : Obj := .cells #[.int .i64 1, .int .i64 60, .int .i64 0, .slice none 0 0] 28


theorem ItemAt.setCell {w : World} {blk off : Nat} {x : It} (h : ItemAt w blk off x) {a : Addr} (ha : blk ≠ a.block) (v : Value) : ItemAt (w.setCell a v) blk off x := by
  have hx : ∀ o, (w.setCell a v).cell? ⟨blk, o, none⟩ = w.cell? ⟨blk, o, none⟩ := fun o => World.cell?_setCell_other _ _ _ _ (by rintro rfl; exact ha rfl)
  unfold ItemAt
  rw [hx, hx, hx, hx, hx, hx, hx]
  exact h
theorem owns_below {w w' : World} {base : Nat} {e : TypeId} {size : Nat} {v : Value} {n : Nat} {xs : List Value} (h : w.ownsRow base e size v n xs) (hb : Below w.heap.size w w') : w'.ownsRow base e size v n xs := by
  refine ⟨h.1, ?_⟩
  rcases h.2 with h2 | ⟨g, cap, cur, h1, h2, h3, h4⟩
  · exact .inl h2
  · refine .inr ⟨g, cap, cur, h1, h2, ?_, h4⟩
    rw [hb.block g (by
      apply Nat.lt_of_not_le
      intro hle
      rw [Array.getElem?_eq_none hle] at h3
      cases h3)]
    exact h3
/-- Cells that hold a list, from a place on. -/
theorem cells_list {w : World} {ob : Obj} {xs : List Value} {e : TypeId} (h : ob = .cells xs.toArray e) (b : Nat) (hb : b = w.heap.size) : ∀ (j : Nat) (u : Value), xs[j]? = some u → (w.alloc ob).cell? ((⟨b, 0, none⟩ : Addr).add j) = some u := by
  subst h hb
  intro j u hj
  rw [show ((⟨w.heap.size, 0, none⟩ : Addr).add j) = ⟨w.heap.size, j, none⟩ from by simp [Addr.add] <;> omega, World.cell?_alloc_at _ _ _ _ rfl]
  simpa using hj


set_option maxRecDepth 100000 in
set_option maxHeartbeats 4000000 in
theorem parse_ex (w : World) (hT : Tabs w) :
    Calls Tryz.prog 8 #[.string exText] w fun e w' => ∃ blk cap, e = .returned (.tuple #[.agg #[.int .i64 1, .int .i64 60, .int .i64 0, .slice (some ⟨blk, 0, none⟩) 2 cap], .int .i64 0]) ∧ Below w.heap.size w w' ∧ ItemAt w' blk 0 ⟨1, 1, 0, 0, 0, 0, ByteArray.empty⟩ ∧ ItemAt w' blk 7 ⟨2, 4, 0, 0, 8, 0, ByteArray.empty⟩ := by
  have hs := hT.letters.1
  have H1 : Hid (∀ W, Tabs W → Calls Tryz.prog 17 #[.string exText, .string ⟨#[58, 32]⟩] W fun e w' => e = .returned (.tuple #[.string ⟨#[114, 111, 117, 110, 100, 32, 54, 48]⟩, .string ⟨#[102, 105, 101, 108, 100, 32, 119, 104, 105, 116, 101, 59, 32, 114, 105, 109, 32, 114, 101, 100, 32, 56]⟩, .bool true]) ∧ ∃ n, w' = W.drewN n) := Lib.hid fun W hW => cut_at _ _ _ _ _ W hW (by decide) (by decide)
  have H2 : Hid (∀ W, Tabs W → Calls Tryz.prog 17 #[.string ⟨#[102, 105, 101, 108, 100, 32, 119, 104, 105, 116, 101, 59, 32, 114, 105, 109, 32, 114, 101, 100, 32, 56]⟩, .string ⟨#[59, 32]⟩] W fun e w' => e = .returned (.tuple #[.string ⟨#[102, 105, 101, 108, 100, 32, 119, 104, 105, 116, 101]⟩, .string ⟨#[114, 105, 109, 32, 114, 101, 100, 32, 56]⟩, .bool true]) ∧ ∃ n, w' = W.drewN n) := Lib.hid fun W hW => cut_at _ _ _ _ _ W hW (by decide) (by decide)
  have H3 : Hid (∀ W, Tabs W → Calls Tryz.prog 17 #[.string ⟨#[114, 105, 109, 32, 114, 101, 100, 32, 56]⟩, .string ⟨#[59, 32]⟩] W fun e w' => e = .returned (.tuple #[.string ⟨#[114, 105, 109, 32, 114, 101, 100, 32, 56]⟩, .string ⟨#[]⟩, .bool false]) ∧ ∃ n, w' = W.drewN n) := Lib.hid fun W hW => cut_at _ _ _ _ _ W hW (by decide) (by decide)
  have HT := Lib.hid hT
  obtain ⟨i0, hi, hz0, hz1, hz2⟩ := info_parts itemInfo
  go_enter Tryz.func8, Tryz.ntmps8
  go_wp2_with fail
  refine (H1.out _ (HT.out.below ((Below.refl _ _).alloc (Nat.le_refl _) _))).mono ?_
  rintro e w1 ⟨rfl, ⟨n, rfl⟩⟩
  go_wp2_with fail
  refine (readHead_ex _ (HT.out.below (below_drewN ((Below.refl _ _).alloc (Nat.le_refl _) _) _))).mono ?_
  rintro e w1 ⟨rfl, hb1⟩
  have hs1 := hb1.size
  have hB1 : Below w.heap.size w w1 := (below_drewN ((Below.refl _ _).alloc (Nat.le_refl _) _) _).trans (hb1.mono (by simp <;> omega))
  have hR1 : Hid (∀ o, w1.cell? ⟨w.heap.size, o, none⟩ = (w.alloc newFace).cell? ⟨w.heap.size, o, none⟩) := Lib.hid fun o => by rw [hb1.cell (p := ⟨w.heap.size, o, none⟩) (by simp <;> omega)]; rfl
  have hF1 : Hid (∀ o, w1.frozen? ⟨w.heap.size, o, none⟩ = (w.alloc newFace).frozen? ⟨w.heap.size, o, none⟩) := Lib.hid fun o => by rw [hb1.frozen (p := ⟨w.heap.size, o, none⟩) (by simp <;> omega)]; rfl
  simp [go_sem] at hs1
  clear hb1
  go_wp2_with fail
  refine wp_loop_rounds 3 ?_
  rw [rounds_succ]
  go_wp2_with fail
  refine (H2.out _ (HT.out.below (hB1.alloc hB1.size _))).mono ?_
  rintro e w2 ⟨rfl, ⟨n2, rfl⟩⟩
  go_wp2_with fail
  refine (readItem_field _ (HT.out.below (below_drewN (hB1.alloc hB1.size _) _))).mono ?_
  rintro e w2 ⟨rfl, hb2⟩
  have hs2 := hb2.size
  have hB2 : Below w.heap.size w w2 := (below_drewN (hB1.alloc hB1.size _) _).trans (hb2.mono (by have := hB1.size; simp <;> omega))
  have hR2 : Hid (∀ o, w2.cell? ⟨w.heap.size, o, none⟩ = (w.alloc newFace).cell? ⟨w.heap.size, o, none⟩) := Lib.hid fun o => by
    rw [hb2.cell (p := ⟨w.heap.size, o, none⟩) (by have := hB1.size; simp <;> omega), ← hR1.out o]
    exact World.cell?_alloc_lt _ _ _ (by show w.heap.size < w1.heap.size; omega)
  have hZ2 : Hid (∀ o, w2.frozen? ⟨w.heap.size, o, none⟩ = (w.alloc newFace).frozen? ⟨w.heap.size, o, none⟩) := Lib.hid fun o => by
    rw [hb2.frozen (p := ⟨w.heap.size, o, none⟩) (by have := hB1.size; simp <;> omega), ← hF1.out o]
    exact ((Below.refl w1.heap.size w1).alloc (Nat.le_refl _) _).frozen (p := ⟨w.heap.size, o, none⟩) (by show w.heap.size < w1.heap.size; omega)
  have p0 := hb2.cell (p := ⟨w1.heap.size, 0, none⟩) (by simp <;> omega)
  have p1 := hb2.cell (p := ⟨w1.heap.size, 1, none⟩) (by simp <;> omega)
  have p2 := hb2.cell (p := ⟨w1.heap.size, 2, none⟩) (by simp <;> omega)
  have p3 := hb2.cell (p := ⟨w1.heap.size, 3, none⟩) (by simp <;> omega)
  have z3 := hb2.frozen (p := ⟨w1.heap.size, 3, none⟩) (by simp <;> omega)
  simp [go_sem] at p0 p1 p2 p3 z3 hs2
  have l12 : w1.heap.size < w2.heap.size := by omega
  have l02 : w.heap.size < w2.heap.size := by omega
  have hown0 : ((w2.alloc (.cells #[.int .i64 1, .int .i64 1, .int .i64 0, .int .i64 0, .int .i64 0, .int .i64 0, .string ByteArray.empty] 33)).alloc (.cells #[.int .i64 1, .int .i64 1, .int .i64 0, .int .i64 0, .int .i64 0, .int .i64 0, .string ByteArray.empty] 33)).ownsRow (w2.heap.size + 2) 33 7 (.slice none 0 0) 0 [] := ⟨rfl, .inl ⟨rfl, rfl⟩⟩
  go_wp2_with (at_builtin; go_loud (refine wpList_append_own _ rfl _ _ 26 rfl (w2.heap.size + 2) 33 i0 _ 7 64 Tryz.underlying26 hi hz0 hz1 hz2 rfl (by decide) _ 0 [] rfl hown0 ⟨w2.heap.size + 1, 0, none⟩ 1 1 [.int .i64 1, .int .i64 1, .int .i64 0, .int .i64 0, .int .i64 0, .int .i64 0, .string ByteArray.empty] rfl rfl ?c1 ?c2 ?c3 ?c4 ?c5 ?_))
  case c1 => exact cells_list rfl _ (by simp)
  case c2 => simp [Value.oneCell']
  case c3 => decide
  case c4 => decide
  case c5 => simp
  intro v' w3 hown hgrow _
  obtain ⟨g, cap, rfl, hg⟩ : ∃ g cap, v' = .slice (some ⟨g, 0, none⟩) 1 cap ∧ w2.heap.size + 2 ≤ g := by
    rcases hown.2 with ⟨_, h⟩ | ⟨g, cap, cur, h1, h2, _⟩
    · cases h
    · exact ⟨g, cap, h1, h2⟩
  have hW3 : Below (w2.heap.size + 2) ((w2.alloc (.cells #[.int .i64 1, .int .i64 1, .int .i64 0, .int .i64 0, .int .i64 0, .int .i64 0, .string ByteArray.empty] 33)).alloc (.cells #[.int .i64 1, .int .i64 1, .int .i64 0, .int .i64 0, .int .i64 0, .int .i64 0, .string ByteArray.empty] 33)) w3 := (Below.refl _ _).grown hgrow (by simp) (fun k h => by cases h)
  have hX3 : Below w2.heap.size w2 w3 := (((Below.refl _ _).alloc (Nat.le_refl _) _).alloc (by simp) _).trans (hW3.mono (by omega))
  have hs3 := hW3.size
  simp at hs3
  have hB3 : Below w.heap.size w w3 := hB2.trans (hX3.mono (by omega))
  have r0 := hX3.cell (p := ⟨w1.heap.size, 0, none⟩) l12
  have r1 := hX3.cell (p := ⟨w1.heap.size, 1, none⟩) l12
  have r2 := hX3.cell (p := ⟨w1.heap.size, 2, none⟩) l12
  have r3 := hX3.cell (p := ⟨w1.heap.size, 3, none⟩) l12
  have y3 := hX3.frozen (p := ⟨w1.heap.size, 3, none⟩) l12
  rw [p0] at r0
  rw [p1] at r1
  rw [p2] at r2
  rw [p3] at r3
  rw [z3] at y3
  have hR3 : Hid (∀ o, w3.cell? ⟨w.heap.size, o, none⟩ = (w.alloc newFace).cell? ⟨w.heap.size, o, none⟩) := Lib.hid fun o => by
    rw [hX3.cell (p := ⟨w.heap.size, o, none⟩) l02]; exact hR2.out o
  have hZ3 : Hid (∀ o, w3.frozen? ⟨w.heap.size, o, none⟩ = (w.alloc newFace).frozen? ⟨w.heap.size, o, none⟩) := Lib.hid fun o => by
    rw [hX3.frozen (p := ⟨w.heap.size, o, none⟩) l02]; exact hZ2.out o
  clear p0 p1 p2 p3 z3 hown0 hgrow
  have HO := Lib.hid hown
  clear hown
  go_wp2_with fail
  rw [rounds_succ]
  go_wp2_with fail
  have hB3' : Below w.heap.size w (w3.setCell ⟨w1.heap.size, 3, none⟩ (.slice (some ⟨g, 0, none⟩) 1 cap)) := hB3.setCell (by simp <;> omega) _
  have hO3 : (w3.setCell ⟨w1.heap.size, 3, none⟩ (.slice (some ⟨g, 0, none⟩) 1 cap)).ownsRow (w2.heap.size + 2) 33 7 (.slice (some ⟨g, 0, none⟩) 1 cap) 1 [.int .i64 1, .int .i64 1, .int .i64 0, .int .i64 0, .int .i64 0, .int .i64 0, .string ByteArray.empty] := ownsRow_setCell_below HO.out (by simp <;> omega) _
  have HO3 := Lib.hid hO3
  clear hO3
  refine (H3.out _ (HT.out.below hB3')).mono ?_
  rintro e w4 ⟨rfl, ⟨n4, rfl⟩⟩
  go_wp2_with fail
  refine (readItem_rim _ (HT.out.below (below_drewN hB3' _))).mono ?_
  rintro e w5 ⟨rfl, hb5⟩
  have hs5 := hb5.size
  have hO5 : w5.ownsRow (w2.heap.size + 2) 33 7 (.slice (some ⟨g, 0, none⟩) 1 cap) 1 [.int .i64 1, .int .i64 1, .int .i64 0, .int .i64 0, .int .i64 0, .int .i64 0, .string ByteArray.empty] := owns_below (w := (w3.setCell ⟨w1.heap.size, 3, none⟩ (.slice (some ⟨g, 0, none⟩) 1 cap)).drewN n4) HO3.out hb5
  have hB5 : Below w.heap.size w w5 := (below_drewN hB3' _).trans (hb5.mono (by have := hB3.size; simp <;> omega))
  have l15 : w1.heap.size < w3.heap.size := by omega
  have l05 : w.heap.size < w3.heap.size := by omega
  have hb5' : Below w3.heap.size (w3.setCell ⟨w1.heap.size, 3, none⟩ (.slice (some ⟨g, 0, none⟩) 1 cap)) w5 := (below_drewN (Below.refl _ _) _).trans (hb5.mono (by simp <;> omega))
  have t0 := hb5'.cell (p := ⟨w1.heap.size, 0, none⟩) l15
  have t1 := hb5'.cell (p := ⟨w1.heap.size, 1, none⟩) l15
  have t2 := hb5'.cell (p := ⟨w1.heap.size, 2, none⟩) l15
  have t3 := hb5'.cell (p := ⟨w1.heap.size, 3, none⟩) l15
  have x3 := hb5'.frozen (p := ⟨w1.heap.size, 3, none⟩) l15
  simp [go_sem, r0, r1, r2, r3, y3] at t0 t1 t2 t3 x3
  simp at hs5
  have hR5 : Hid (∀ o, w5.cell? ⟨w.heap.size, o, none⟩ = (w.alloc newFace).cell? ⟨w.heap.size, o, none⟩) := Lib.hid fun o => by
    rw [hb5'.cell (p := ⟨w.heap.size, o, none⟩) l05, World.cell?_setCell_other _ _ _ _ (by intro h; simp at h; try omega)]; exact hR3.out o
  have hZ5 : Hid (∀ o, w5.frozen? ⟨w.heap.size, o, none⟩ = (w.alloc newFace).frozen? ⟨w.heap.size, o, none⟩) := Lib.hid fun o => by
    rw [hb5'.frozen (p := ⟨w.heap.size, o, none⟩) l05, World.frozen?_setCell]; exact hZ3.out o
  have l25 : w1.heap.size < w5.heap.size := by omega
  have l26 : w.heap.size < w5.heap.size := by omega
  clear r0 r1 r2 r3 y3 hb5
  have hO6 : ((w5.alloc (.cells #[.int .i64 2, .int .i64 4, .int .i64 0, .int .i64 0, .int .i64 8, .int .i64 0, .string ByteArray.empty] 33)).alloc (.cells #[.int .i64 2, .int .i64 4, .int .i64 0, .int .i64 0, .int .i64 8, .int .i64 0, .string ByteArray.empty] 33)).ownsRow (w2.heap.size + 2) 33 7 (.slice (some ⟨g, 0, none⟩) 1 cap) 1 [.int .i64 1, .int .i64 1, .int .i64 0, .int .i64 0, .int .i64 0, .int .i64 0, .string ByteArray.empty] := (hO5.alloc _).alloc _
  have hO5' := Lib.hid hO5
  clear hO5
  go_wp2_with (at_builtin; refine wpList_append_own _ rfl _ _ 26 rfl (w2.heap.size + 2) 33 i0 _ 7 64 Tryz.underlying26 hi hz0 hz1 hz2 rfl (by decide) _ 1 _ rfl hO6 ⟨w5.heap.size + 1, 0, none⟩ 1 1 [.int .i64 2, .int .i64 4, .int .i64 0, .int .i64 0, .int .i64 8, .int .i64 0, .string ByteArray.empty] rfl rfl ?d1 ?d2 ?d3 ?d4 ?d5 ?_)
  case d1 => exact cells_list rfl _ (by simp)
  case d2 => simp [Value.oneCell']
  case d3 => decide
  case d4 => decide
  case d5 => simp <;> omega
  intro v' w6 hown hgrow _
  obtain ⟨g2, cap2, rfl, hg2⟩ : ∃ g2 cap2, v' = .slice (some ⟨g2, 0, none⟩) 2 cap2 ∧ w2.heap.size + 2 ≤ g2 := by
    rcases hown.2 with ⟨_, h⟩ | ⟨g2, cap2, cur, h1, h2, _⟩
    · cases h
    · exact ⟨g2, cap2, h1, h2⟩
  have hX6 : Below (w2.heap.size + 2) w5 w6 := (((Below.refl _ _).alloc (by omega) _).alloc (by simp <;> omega) _).grown hgrow (by simp <;> omega) (fun k h => by simp [Value.ownBlock] at h; try omega)
  have hs6 := hX6.size
  have m0 := hX6.cell (p := ⟨w1.heap.size, 0, none⟩) (by show w1.heap.size < _; omega)
  have m1 := hX6.cell (p := ⟨w1.heap.size, 1, none⟩) (by show w1.heap.size < _; omega)
  have m2 := hX6.cell (p := ⟨w1.heap.size, 2, none⟩) (by show w1.heap.size < _; omega)
  have m3 := hX6.cell (p := ⟨w1.heap.size, 3, none⟩) (by show w1.heap.size < _; omega)
  have mf := hX6.frozen (p := ⟨w1.heap.size, 3, none⟩) (by show w1.heap.size < _; omega)
  rw [t0] at m0
  rw [t1] at m1
  rw [t2] at m2
  rw [t3] at m3
  rw [x3] at mf
  have hB6 : Below w.heap.size w w6 := hB5.trans (hX6.mono (by omega))
  have hR6 : Hid (∀ o, w6.cell? ⟨w.heap.size, o, none⟩ = (w.alloc newFace).cell? ⟨w.heap.size, o, none⟩) := Lib.hid fun o => by
    rw [hX6.cell (p := ⟨w.heap.size, o, none⟩) (by show w.heap.size < _; omega)]; exact hR5.out o
  have hZ6 : Hid (∀ o, w6.frozen? ⟨w.heap.size, o, none⟩ = (w.alloc newFace).frozen? ⟨w.heap.size, o, none⟩) := Lib.hid fun o => by
    rw [hX6.frozen (p := ⟨w.heap.size, o, none⟩) (by show w.heap.size < _; omega)]; exact hZ5.out o
  have hO7 : (w6.setCell ⟨w1.heap.size, 3, none⟩ (.slice (some ⟨g2, 0, none⟩) 2 cap2)).ownsRow (w2.heap.size + 2) 33 7 (.slice (some ⟨g2, 0, none⟩) 2 cap2) 2 [.int .i64 1, .int .i64 1, .int .i64 0, .int .i64 0, .int .i64 0, .int .i64 0, .string ByteArray.empty, .int .i64 2, .int .i64 4, .int .i64 0, .int .i64 0, .int .i64 8, .int .i64 0, .string ByteArray.empty] := ownsRow_setCell_below hown (by simp <;> omega) _
  have HO7 := Lib.hid hO7
  clear t0 t1 t2 t3 x3 hO6 hgrow hown hO7
  go_wp2_with fail
  rw [rounds_succ]
  go_wp2_with fail
  have hB7 : Below w.heap.size w (w6.setCell ⟨w1.heap.size, 3, none⟩ (.slice (some ⟨g2, 0, none⟩) 2 cap2)) := hB6.setCell (by simp <;> omega) _
  have hT7 := HT.out.below hB7
  have A0 : ItemAt (w6.setCell ⟨w1.heap.size, 3, none⟩ (.slice (some ⟨g2, 0, none⟩) 2 cap2)) g2 0 ⟨1, 1, 0, 0, 0, 0, ByteArray.empty⟩ := ⟨HO7.out.cellAt 0 (by decide), HO7.out.cellAt 1 (by decide), HO7.out.cellAt 2 (by decide), HO7.out.cellAt 3 (by decide), HO7.out.cellAt 4 (by decide), HO7.out.cellAt 5 (by decide), HO7.out.cellAt 6 (by decide)⟩
  have A1 : ItemAt (w6.setCell ⟨w1.heap.size, 3, none⟩ (.slice (some ⟨g2, 0, none⟩) 2 cap2)) g2 7 ⟨2, 4, 0, 0, 8, 0, ByteArray.empty⟩ := ⟨HO7.out.cellAt 7 (by decide), HO7.out.cellAt 8 (by decide), HO7.out.cellAt 9 (by decide), HO7.out.cellAt 10 (by decide), HO7.out.cellAt 11 (by decide), HO7.out.cellAt 12 (by decide), HO7.out.cellAt 13 (by decide)⟩
  have hV := valid_any 1 60 0 (some ⟨g2, 0, none⟩) cap2 exIts _ hT7.letters hT7.kinds ⟨by decide, by decide, g2, 0, fun _ => rfl, fun k hk => by
    have : k = 0 ∨ k = 1 := by have : k < 2 := hk; omega
    rcases this with rfl | rfl
    · exact A0
    · exact A1⟩
  rw [faceB_ex] at hV
  refine hV.mono ?_
  rintro e w7 ⟨rfl, hb7⟩
  have C0 := Lib.hid (A0.below hb7)
  have C1 := Lib.hid (A1.below hb7)
  have hs7 := hb7.size
  rw [World.size_setCell] at hs7
  have k0 := hb7.cell (p := ⟨w1.heap.size, 0, none⟩) (by rw [World.size_setCell]; show w1.heap.size < w6.heap.size; omega)
  have k1 := hb7.cell (p := ⟨w1.heap.size, 1, none⟩) (by rw [World.size_setCell]; show w1.heap.size < w6.heap.size; omega)
  have k2 := hb7.cell (p := ⟨w1.heap.size, 2, none⟩) (by rw [World.size_setCell]; show w1.heap.size < w6.heap.size; omega)
  have k3 := hb7.cell (p := ⟨w1.heap.size, 3, none⟩) (by rw [World.size_setCell]; show w1.heap.size < w6.heap.size; omega)
  simp [go_sem, m0, m1, m2, m3] at k0 k1 k2 k3
  have hR7 : ∀ o, w7.cell? ⟨w.heap.size, o, none⟩ = (w.alloc newFace).cell? ⟨w.heap.size, o, none⟩ := fun o => by
    rw [hb7.cell (p := ⟨w.heap.size, o, none⟩) (by rw [World.size_setCell]; show w.heap.size < w6.heap.size; omega), World.cell?_setCell_other _ _ _ _ (by intro h; simp at h; try omega)]; exact hR6.out o
  have n0 := hR7 0
  have n1 := hR7 1
  have n2' := hR7 2
  have n3 := hR7 3
  simp [go_sem] at n0 n1 n2' n3
  have hZ7 : ∀ o, w7.frozen? ⟨w.heap.size, o, none⟩ = (w.alloc newFace).frozen? ⟨w.heap.size, o, none⟩ := fun o => by
    rw [hb7.frozen (p := ⟨w.heap.size, o, none⟩) (by rw [World.size_setCell]; show w.heap.size < w6.heap.size; omega), World.frozen?_setCell]; exact hZ6.out o
  have v0 := hZ7 0
  have v1 := hZ7 1
  have v2 := hZ7 2
  have v3 := hZ7 3
  simp [go_sem] at v0 v1 v2 v3
  clear hR7 hZ7
  have hB8 : Below w.heap.size w w7 := hB7.trans (hb7.mono (by rw [World.size_setCell]; omega))
  clear A0 A1 hV m0 m1 m2 m3 mf
  go_wp2_with fail
  refine bodyPost_ret (v := .tuple #[.agg #[.int .i64 1, .int .i64 60, .int .i64 0, .slice (some ⟨g2, 0, none⟩) 2 cap2], .int .i64 0]) (by simp [results, Tryz.results8, go_sem, n0, n1, n2', n3]) rfl ⟨g2, cap2, rfl, ?_, ?_, ?_⟩
  · exact (((hB8.setCell (by simp) _).setCell (by simp) _).setCell (by simp) _).setCell (by simp) _
  · exact (((C0.out.setCell (by simp; omega) _).setCell (by simp; omega) _).setCell (by simp; omega) _).setCell (by simp; omega) _
  · exact (((C1.out.setCell (by simp; omega) _).setCell (by simp; omega) _).setCell (by simp; omega) _).setCell (by simp; omega) _
end Go.Proofs.YtbogmdelceikgaaGreatDoor
