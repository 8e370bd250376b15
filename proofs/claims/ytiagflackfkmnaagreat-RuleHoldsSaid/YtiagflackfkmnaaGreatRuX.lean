/-
  The sanity check of the laws of package rule. By an AI agent.
-/
import Derived.Test.YtiagflackfkmnaaGreatRuW
namespace Go.Proofs.YtiagflackfkmnaaGreat
set_option linter.unusedVariables false
set_option linter.unusedSimpArgs false
open Go.RowKit

def exS : Sgn := ⟨1, 1, 70, 200, 1, 1, 0, 9, []⟩
theorem ex_srt : srt [0, 1000, 200, 600] = [0, 200, 600, 1000] := by simp [srt, List.mergeSort]
theorem ex_srt1 : srt [1] = [1] := by simp [srt]
theorem ex_lst : lstE 1000 [600] [exS] [] = 0 := by
  have e1 : nosK [exS] [exS].length = [1] := rfl
  have e2 : nosE [] ([] : List Edc).length = [] := rfl
  have e3 : srt ([] : List Int) = [] := by simp [srt]
  unfold lstE sgnsB edcsB numB
  rw [e1, e2, e3, ex_srt1]
  decide
theorem ex_held (row : List Pst) (h : RowL 1000 [600] 1 3 [exS] row) : hldM 1000 1 1 row = [(200, 600, 70)] := by
  obtain ⟨ad, cp, l1, hp, -, rfl⟩ := h
  have e : rowK 1000 [600] 1 3 [exS] ad cp [exS].length = [(mkP 1000 [600] 1 exS, ad 0, cp 0)] := rfl
  rw [e] at hp
  obtain rfl := List.perm_singleton.1 hp
  have e2 : (finP [(mkP 1000 [600] 1 exS, ad 0, cp 0)] ([(mkP 1000 [600] 1 exS, ad 0, cp 0)].length - 1)).map (·.1) = [mkP 1000 [600] 1 exS] := rfl
  rw [e2]
  have e3 : cutsK 1000 1 [mkP 1000 [600] 1 exS] [mkP 1000 [600] 1 exS].length = [0, 1000, 200, 600] := by decide
  unfold hldM ascL
  rw [e3, ex_srt]
  decide
theorem pairs_nilR (w : World) : PairsS w none [] := ⟨by decide, fun i hi => absurd hi (Nat.not_lt_zero i), 0, 0, fun h => (h rfl).elim, fun i hi => absurd hi (Nat.not_lt_zero i)⟩
theorem ex_ints {w : World} {b : Nat} (h : w.cell? ⟨b, 0, none⟩ = some (.int .i64 600)) : IntsS w (some ⟨b, 0, none⟩) [600] := ⟨by decide, fun i hi => by
  have hi : i < 1 := hi
  obtain rfl : i = 0 := by omega
  exact ⟨by decide, by decide⟩, b, 0, fun _ => rfl, fun i hi => by
  have hi : i < 1 := hi
  obtain rfl : i = 0 := by omega
  exact h⟩
theorem ex_sgn {w : World} {b : Nat} (h : w.heap[b]? = some (.cells #[.int .i64 1, .int .i64 1, .int .i64 70, .int .i64 200, .int .i64 1, .int .i64 1, .int .i64 0, .int .i64 9, .slice none 0 0] 34)) : SgnS w (some ⟨b, 0, none⟩) [exS] := ⟨by decide, b, 0, fun _ => none, fun _ => 0, fun _ => rfl, fun i hi => by
  have hi : i < 1 := hi
  obtain rfl : i = 0 := by omega
  exact ⟨⟨by simp [World.cell?, h]; rfl, by simp [World.cell?, h]; rfl, by simp [World.cell?, h]; rfl, by simp [World.cell?, h]; rfl, by simp [World.cell?, h]; rfl, by simp [World.cell?, h]; rfl, by simp [World.cell?, h]; rfl, by simp [World.cell?, h]; rfl⟩, by simp [World.cell?, h]; rfl, pairs_nilR _⟩⟩
/-- The example's stretch. -/
def ExE (w : World) (e : Ending) (w' : World) : Prop := ∃ g c, e = .returned (.tuple #[.slice (some ⟨g, 0, none⟩) 1 c, .int .i64 0]) ∧ w'.cell? ⟨g, 0, none⟩ = some (.int .i64 200) ∧ w'.cell? ⟨g, 1, none⟩ = some (.int .i64 600) ∧ w'.cell? ⟨g, 2, none⟩ = some (.int .i64 70) ∧ Below w.heap.size w w'
theorem ex_call (b1 b2 : Nat) (w : World) (h1 : IntsS w (some ⟨b1, 0, none⟩) [600]) (h2 : SgnS w (some ⟨b2, 0, none⟩) [exS]) : Calls Tryz.prog 26 #[.agg #[.int .i64 1000, .slice (some ⟨b1, 0, none⟩) 1 1], .slice (some ⟨b2, 0, none⟩) 1 1, .int .i64 3, .int .i64 1, .int .i64 1] w (ExE w) := by
  refine (Held_good 1000 (some ⟨b1, 0, none⟩) [600] 1 (some ⟨b2, 0, none⟩) [exS] 1 3 1 1 ex_lst (by decide) (by decide) (by decide) w h1 h2).mono ?_
  rintro e w' ⟨row, b, c, hRL, rfl, hown, hb⟩
  rw [ex_held row hRL] at hown ⊢
  rcases hown.2 with ⟨h1, h2⟩ | ⟨g2, c2, cur, h1, _⟩
  · cases h2
  · obtain ⟨rfl, rfl⟩ : b = some ⟨g2, 0, none⟩ ∧ c = c2 := by simpa using h1
    exact ⟨g2, c, rfl, (World.ownsRow.cellAt hown 0 (by decide)).trans rfl, (World.ownsRow.cellAt hown 1 (by decide)).trans rfl, (World.ownsRow.cellAt hown 2 (by decide)).trans rfl, hb⟩
set_option maxRecDepth 100000 in
set_option maxHeartbeats 1000000 in
theorem first_any (w : World) : Calls Tryz.prog 12 #[] w fun e w' => e = .returned (.bool true) ∧ Below w.heap.size w w' := by
  go_enter Tryz.func12, Tryz.ntmps12
  go_wp2_with fail
  obtain ⟨wB, hwB⟩ : ∃ wB, ((w.alloc (.cells #[.int .i64 600] 3)).alloc (.cells #[.int .i64 1000, .slice (some ⟨w.heap.size, 0, none⟩) 1 1] 24)).alloc (.cells #[.int .i64 1, .int .i64 1, .int .i64 70, .int .i64 200, .int .i64 1, .int .i64 1, .int .i64 0, .int .i64 9, .slice none 0 0] 34) = wB := ⟨_, rfl⟩
  have hb : Below w.heap.size w wB := by rw [← hwB]; exact (((Below.refl _ _).alloc (Nat.le_refl _) _).alloc (by simp) _).alloc (by simp; omega) _
  have HI : Hid (IntsS wB (some ⟨w.heap.size, 0, none⟩) [600]) := Lib.hid (ex_ints (by rw [← hwB]; simp [go_sem]))
  have HS : Hid (SgnS wB (some ⟨w.heap.size + 1 + 1, 0, none⟩) [exS]) := Lib.hid (ex_sgn (by rw [← hwB]; have := heap_alloc_new ((w.alloc (.cells #[.int .i64 600] 3)).alloc (.cells #[.int .i64 1000, .slice (some ⟨w.heap.size, 0, none⟩) 1 1] 24)) (.cells #[.int .i64 1, .int .i64 1, .int .i64 70, .int .i64 200, .int .i64 1, .int .i64 1, .int .i64 0, .int .i64 9, .slice none 0 0] 34); simpa using this))
  rw [hwB]
  clear hwB
  refine (ex_call _ _ _ HI.out HS.out).mono ?_
  rintro e w1 ⟨g, c, rfl, c0, c1, c2, hb1⟩
  have hb := hb.trans (hb1.mono hb.size)
  clear hb1 HI HS
  go_wp2_with fail
  go_ret
  exact ⟨rfl, hb⟩
end Go.Proofs.YtiagflackfkmnaaGreat
