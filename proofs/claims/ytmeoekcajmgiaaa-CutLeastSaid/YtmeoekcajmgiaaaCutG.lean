/-
  Parse at the text of one letter, and Awake. By an AI agent.
-/
import Derived.Test.YtmeoekcajmgiaaaCutF
namespace Go.Proofs.Ytmeoekcajmgiaaa
set_option linter.unusedVariables false
set_option linter.unusedSimpArgs false
open Go.RowKit

/-- CutPrefix at the text 'a', where it is no prefix. -/
theorem cutPrefixA_any (p : ByteArray) (hp : p = ⟨#[95]⟩ ∨ p = ⟨#[104, 32]⟩ ∨ p = ⟨#[118, 32]⟩) (w : World) :
    Calls Try.prog 57 #[.string ⟨#[97]⟩, .string p] w fun e w' => e = .returned (.tuple #[.string ⟨#[97]⟩, .bool false]) ∧ w = w' := by
  have hx : (({ data := #[97] } : ByteArray).extract 0 1).toList = [97] := by decide +kernel
  rcases hp with rfl | rfl | rfl
  all_goals
    go_enter Try.func57, Try.ntmps57
    go_wp2
    go_ret2
    exact ⟨rfl, rfl⟩
theorem cutPreA_any (p : ByteArray) (hp : p = ⟨#[95]⟩ ∨ p = ⟨#[104, 32]⟩ ∨ p = ⟨#[118, 32]⟩) (w : World) :
    Calls Try.prog 54 #[.string ⟨#[97]⟩, .string p] w fun e w' => e = .returned (.tuple #[.string ⟨#[97]⟩, .bool false]) ∧ w = w' := by
  have H := Lib.hid (cutPrefixA_any p hp)
  clear hp
  go_enter Try.func54, Try.ntmps54
  go_wp2_with fail
  refine (H.out _).mono ?_
  rintro e w1 ⟨rfl, rfl⟩
  go_wp2_with fail
  go_ret2
  exact ⟨rfl, rfl⟩

set_option maxRecDepth 100000 in
theorem takeA_any (b : Nat) (p : ByteArray) (hp : p = ⟨#[95]⟩ ∨ p = ⟨#[104, 32]⟩ ∨ p = ⟨#[118, 32]⟩) (w : World) (hc : w.cell? ⟨b, 0, none⟩ = some (.string ⟨#[97]⟩)) (hf : w.frozen? ⟨b, 0, none⟩ = false) :
    Calls Try.prog 44 #[.pointer (some ⟨b, 0, none⟩), .string p] w fun e w' => e = .returned (.bool false) ∧ w' = w.setCell ⟨b, 0, none⟩ (.string ⟨#[97]⟩) := by
  have H := Lib.hid (cutPreA_any p hp)
  clear hp
  go_enter Try.func44, Try.ntmps44
  go_wp2_with fail
  refine (H.out _).mono ?_
  rintro e w1 ⟨rfl, rfl⟩
  go_wp2_with fail
  go_ret
  exact ⟨rfl, rfl⟩

theorem letterA_any (w : World) : Calls Try.prog 46 #[.int .u8 97] w fun e w' => e = .returned (.bool true) ∧ w = w' := by
  go_enter Try.func46, Try.ntmps46
  go_wp2
  go_ret
  exact ⟨rfl, rfl⟩

/-- Only block b has changed, and none is new. -/
def Keep (b : Nat) (w w' : World) : Prop := (∀ c o, c ≠ b → w'.cell? ⟨c, o, none⟩ = w.cell? ⟨c, o, none⟩) ∧ (∀ c o, w'.frozen? ⟨c, o, none⟩ = w.frozen? ⟨c, o, none⟩) ∧ w'.heap.size = w.heap.size ∧ Below b w w'
theorem keep_set (b : Nat) (w : World) (v : Value) : Keep b w (w.setCell ⟨b, 0, none⟩ v) := by
  refine ⟨fun c o h => ?_, fun c o => ?_, ?_, Below.setCell (p := ⟨b, 0, none⟩) (Below.refl b w) (Nat.le_refl b) v⟩
  · simp [go_sem, h]
  · simp [go_sem]
  · simp
theorem takeK_any (b : Nat) (p : ByteArray) (hp : p = ⟨#[95]⟩ ∨ p = ⟨#[104, 32]⟩ ∨ p = ⟨#[118, 32]⟩) (w : World) (hc : w.cell? ⟨b, 0, none⟩ = some (.string ⟨#[97]⟩)) (hf : w.frozen? ⟨b, 0, none⟩ = false) :
    Calls Try.prog 44 #[.pointer (some ⟨b, 0, none⟩), .string p] w fun e w' => e = .returned (.bool false) ∧ Keep b w w' ∧ w'.cell? ⟨b, 0, none⟩ = some (.string ⟨#[97]⟩) := by
  refine (takeA_any b p hp w hc hf).mono ?_
  rintro e w' ⟨rfl, rfl⟩
  refine ⟨rfl, keep_set b w _, ?_⟩
  have := block_lt hc
  simp [go_sem, hc]

/-- The world behind a first letter: the result cell lies at n, the text at b. -/
def CutA (b n : Nat) (w W : World) : Prop := (W.cell? ⟨b, 0, none⟩ = some (.string ⟨#[97]⟩) ∧ W.frozen? ⟨b, 0, none⟩ = false) ∧ (W.cell? ⟨n, 0, none⟩ = some (.int .i64 0) ∧ W.cell? ⟨n, 1, none⟩ = some (.int .i64 0) ∧ W.cell? ⟨n, 2, none⟩ = some (.int .u8 0) ∧ W.cell? ⟨n, 3, none⟩ = some (.slice none 0 0)) ∧ (∀ o, W.frozen? ⟨n, o, none⟩ = false) ∧ Below b w W
theorem CutA.keep {b n : Nat} {w W W' : World} (hn : n ≠ b) (h : CutA b n w W) (hk : Keep b W W') (hc : W'.cell? ⟨b, 0, none⟩ = some (.string ⟨#[97]⟩)) : CutA b n w W' := by
  obtain ⟨⟨_, h1⟩, ⟨h2, h3, h4, h5⟩, h6, h7⟩ := h
  obtain ⟨k1, k2, k3, k4⟩ := hk
  refine ⟨⟨hc, by rw [k2]; exact h1⟩, ⟨by rw [k1 _ _ hn]; exact h2, by rw [k1 _ _ hn]; exact h3, by rw [k1 _ _ hn]; exact h4, by rw [k1 _ _ hn]; exact h5⟩, fun o => by rw [k2]; exact h6 o, h7.trans k4⟩

set_option maxRecDepth 100000 in
set_option maxHeartbeats 1000000 in
theorem cutA_any (b : Nat) (w : World) (hc : w.cell? ⟨b, 0, none⟩ = some (.string ⟨#[97]⟩)) (hf : w.frozen? ⟨b, 0, none⟩ = false) :
    Calls Try.prog 30 #[.pointer (some ⟨b, 0, none⟩)] w fun e w' => e = .returned (.tuple #[.agg #[.int .i64 1, .int .i64 0, .int .u8 97, .slice none 0 0], .bool true]) ∧ Below b w w' ∧ w'.cell? ⟨b, 0, none⟩ = some (.string ⟨#[]⟩) := by
  have hz := block_lt hc
  have hn : w.heap.size ≠ b := by omega
  have HK : Hid (∀ W W', CutA b w.heap.size w W → Keep b W W' → W'.cell? ⟨b, 0, none⟩ = some (.string ⟨#[97]⟩) → CutA b w.heap.size w W') := Lib.hid fun W W' h hk hc => h.keep hn hk hc
  have HT := Lib.hid (takeK_any b)
  have HL := Lib.hid letterA_any
  have hx : (({ data := #[97] } : ByteArray).extract 1 1) = ⟨#[]⟩ := by decide +kernel
  have h0 : CutA b w.heap.size w (w.alloc (.cells #[.int .i64 0, .int .i64 0, .int .u8 0, .slice none 0 0] 46)) :=
    ⟨⟨cell_below hc ((Below.refl _ _).alloc (Nat.le_refl _) _), (((Below.refl _ _).alloc (Nat.le_refl _) _ : Below w.heap.size w (w.alloc (.cells #[.int .i64 0, .int .i64 0, .int .u8 0, .slice none 0 0] 46))).frozen (p := ⟨b, 0, none⟩) hz).trans hf⟩, ⟨by simp [go_sem], by simp [go_sem], by simp [go_sem], by simp [go_sem]⟩, fun o => by simp [go_sem], ((Below.refl _ _).alloc (Nat.le_refl _) _ : Below w.heap.size w _).mono (by omega)⟩
  clear hc hf
  go_enter Try.func30, Try.ntmps30
  go_wp2_with fail
  obtain ⟨wA, hwA⟩ : ∃ wA, w.alloc (.cells #[.int .i64 0, .int .i64 0, .int .u8 0, .slice none 0 0] 46) = wA := ⟨_, rfl⟩
  rw [hwA] at h0 ⊢
  clear hwA
  refine (HT.out _ (.inl rfl) _ h0.1.1 h0.1.2).mono ?_
  rintro e w1 ⟨rfl, K1, c1⟩
  have h1 := HK.out _ _ h0 K1 c1
  clear h0 K1 c1
  go_wp2_with fail
  refine (HT.out _ (.inr (.inl rfl)) _ h1.1.1 h1.1.2).mono ?_
  rintro e w2 ⟨rfl, K1, c1⟩
  have h2 := HK.out _ _ h1 K1 c1
  clear h1 K1 c1
  go_wp2_with fail
  refine (HT.out _ (.inr (.inr rfl)) _ h2.1.1 h2.1.2).mono ?_
  rintro e w3 ⟨rfl, K1, c1⟩
  have h3 := HK.out _ _ h2 K1 c1
  clear h2 K1 c1 HK HT
  obtain ⟨⟨t0, t1⟩, ⟨n0, n1, n2, n3⟩, nf, hb⟩ := h3
  have f0 := nf 0
  have f1 := nf 1
  have f2 := nf 2
  have f3 := nf 3
  clear nf
  go_wp2_with fail
  refine (HL.out _).mono ?_
  rintro e w4 ⟨rfl, rfl⟩
  go_wp2_with fail
  refine bodyPost_ret (v := .tuple #[.agg #[.int .i64 1, .int .i64 0, .int .u8 97, .slice none 0 0], .bool true]) (by simp [results, Try.results30, t0, t1, n0, n1, n2, n3, f0, f1, f2, f3, go_sem]; rfl) rfl ⟨rfl, ?_, ?_⟩
  · exact ((((hb.setCell (p := ⟨b, 0, none⟩) (Nat.le_refl b) _).setCell (p := ⟨w.heap.size, 0, none⟩) (Nat.le_of_lt hz) _).setCell (p := ⟨w.heap.size, 1, none⟩) (Nat.le_of_lt hz) _).setCell (p := ⟨w.heap.size, 2, none⟩) (Nat.le_of_lt hz) _).setCell (p := ⟨w.heap.size, 3, none⟩) (Nat.le_of_lt hz) _
  · simp [go_sem, t0, n0, n1, n2, n3, hn, hn.symm, hx]
    rfl

set_option maxRecDepth 100000 in
set_option maxHeartbeats 1000000 in
theorem deepA_any (m : Value) (w : World) :
    Calls Try.prog 31 #[.agg #[.int .i64 1, .int .i64 0, .int .u8 97, .slice none 0 0], .int .i64 1, m] w fun e w' => e = .returned (.bool false) ∧ Below w.heap.size w w' := by
  go_enter Try.func31, Try.ntmps31
  go_wp2_with fail
  all_goals
    go_ret
    exact ⟨rfl, (((Below.refl _ _).alloc (Nat.le_refl _) _).alloc (by simp) _).alloc (by simp; omega) _⟩

set_option maxRecDepth 100000 in
set_option maxHeartbeats 1000000 in
theorem parseA_any (w : World) :
    Calls Try.prog 14 #[.string ⟨#[97]⟩] w fun e w' => e = .returned (.tuple #[.agg #[.int .i64 1, .int .i64 0, .int .u8 97, .slice none 0 0], .int .i64 0]) ∧ Below w.heap.size w w' := by
  have HC := Lib.hid cutA_any
  have HD := Lib.hid deepA_any
  have hmm := @run_makeMap Try.prog
  go_enter Try.func14, Try.ntmps14
  go_wp2_with fail
  refine (HC.out _ _ (by simp [go_sem]) (by simp [go_sem])).mono ?_
  rintro e w1 ⟨rfl, hb1, c1⟩
  have hsz : w.heap.size + 1 < w1.heap.size := by have := block_lt c1; exact this
  have n0 := (hb1.cell (p := ⟨w.heap.size, 0, none⟩) (by simp)).trans (show _ = some (Value.int .i64 0) by simp [go_sem])
  have n1 := (hb1.cell (p := ⟨w.heap.size, 1, none⟩) (by simp)).trans (show _ = some (Value.int .i64 0) by simp [go_sem])
  have n2 := (hb1.cell (p := ⟨w.heap.size, 2, none⟩) (by simp)).trans (show _ = some (Value.int .u8 0) by simp [go_sem])
  have n3 := (hb1.cell (p := ⟨w.heap.size, 3, none⟩) (by simp)).trans (show _ = some (Value.slice none 0 0) by simp [go_sem])
  have f0 := (hb1.frozen (p := ⟨w.heap.size, 0, none⟩) (by simp)).trans (show _ = false by simp [go_sem])
  have f1 := (hb1.frozen (p := ⟨w.heap.size, 1, none⟩) (by simp)).trans (show _ = false by simp [go_sem])
  have f2 := (hb1.frozen (p := ⟨w.heap.size, 2, none⟩) (by simp)).trans (show _ = false by simp [go_sem])
  have f3 := (hb1.frozen (p := ⟨w.heap.size, 3, none⟩) (by simp)).trans (show _ = false by simp [go_sem])
  have hB : Below w.heap.size w w1 := (box_below (box_below (Below.refl _ _))).trans (hb1.mono (by omega))
  clear hb1
  go_wp2_with fail
  refine (HD.out _ _).mono ?_
  rintro e w2 ⟨rfl, hb2⟩
  obtain ⟨hc2, hf2⟩ := bcell hb2
  have hz1 : w.heap.size < w1.heap.size := by omega
  have hz2 : w1.heap.size < w2.heap.size := by have := hb2.size; simp at this; omega
  have hbw : Below w1.heap.size w1 w2 := box_below (box_below hb2)
  have n0 := (hbw.cell (p := ⟨w.heap.size, 0, none⟩) hz1).trans n0
  have f0 := (hbw.frozen (p := ⟨w.heap.size, 0, none⟩) hz1).trans f0
  have n1 := (hbw.cell (p := ⟨w.heap.size, 1, none⟩) hz1).trans n1
  have f1 := (hbw.frozen (p := ⟨w.heap.size, 1, none⟩) hz1).trans f1
  have n2 := (hbw.cell (p := ⟨w.heap.size, 2, none⟩) hz1).trans n2
  have f2 := (hbw.frozen (p := ⟨w.heap.size, 2, none⟩) hz1).trans f2
  have n3 := (hbw.cell (p := ⟨w.heap.size, 3, none⟩) hz1).trans n3
  have f3 := (hbw.frozen (p := ⟨w.heap.size, 3, none⟩) hz1).trans f3
  have hB2 : Below w.heap.size w w2 := hB.trans ((box_below (box_below hb2)).mono (by omega))
  go_wp2_with fail
  refine bodyPost_ret (v := .tuple #[.agg #[.int .i64 1, .int .i64 0, .int .u8 97, .slice none 0 0], .int .i64 0]) (by simp [results, Try.results14, n0, n1, n2, n3, f0, f1, f2, f3, go_sem]) rfl ⟨rfl, ?_⟩
  exact (((hB2.setCell (p := ⟨w.heap.size, 0, none⟩) (Nat.le_refl _) _).setCell (p := ⟨w.heap.size, 1, none⟩) (Nat.le_refl _) _).setCell (p := ⟨w.heap.size, 2, none⟩) (Nat.le_refl _) _).setCell (p := ⟨w.heap.size, 3, none⟩) (Nat.le_refl _) _
end Go.Proofs.Ytmeoekcajmgiaaa
