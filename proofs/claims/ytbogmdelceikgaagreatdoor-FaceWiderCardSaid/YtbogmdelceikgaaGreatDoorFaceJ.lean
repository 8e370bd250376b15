/-
  The walk of Parse at the chapter's first example. By an AI agent.
-/
import Derived.Test.YtbogmdelceikgaaGreatDoorFaceI
import Derived.Test.YtbogmdelceikgaaGreatDoorShelf
namespace Go.Proofs.YtbogmdelceikgaaGreatDoor
open Go.RowKit

def sNames : List (List UInt8) := [[], [114, 111, 117, 110, 100], [112, 97, 110, 101, 108], [100, 105, 97, 109, 111, 110, 100], [111, 99, 116, 97, 103, 111, 110], [117, 112], [100, 111, 119, 110]]
def cNames : List (List UInt8) := [[], [119, 104, 105, 116, 101], [121, 101, 108, 108, 111, 119], [111, 114, 97, 110, 103, 101], [114, 101, 100], [103, 114, 101, 101, 110], [98, 108, 117, 101], [98, 114, 111, 119, 110], [98, 108, 97, 99, 107]]
/-- What package face reads of its variables, and what the library reads. -/
structure Tabs (w : World) : Prop where
  letters : LettersAt w
  kinds : KindsAt w
  shapes : ∀ k, k < 7 → w.cell? ⟨2, k, none⟩ = some (.string ⟨(sNames.getD k []).toArray⟩)
  colours : ∀ k, k < 9 → w.cell? ⟨3, k, none⟩ = some (.string ⟨(cNames.getD k []).toArray⟩)
  maxlen : ∃ m, w.cell? ⟨4, 0, none⟩ = some (.int .i64 m)
theorem Tabs.below {w w' : World} (h : Tabs w) (hb : Below w.heap.size w w') : Tabs w' := by
  have hs := h.letters.1
  have hx : ∀ b o, b < 12 → w'.cell? ⟨b, o, none⟩ = w.cell? ⟨b, o, none⟩ := fun b o hl => hb.cell (p := ⟨b, o, none⟩) (by show b < w.heap.size; omega)
  refine ⟨h.letters.below hb hs, h.kinds.below hb hs, fun k hk => ?_, fun k hk => ?_, ?_⟩
  · rw [hx _ _ (by decide)]; exact h.shapes k hk
  · rw [hx _ _ (by decide)]; exact h.colours k hk
  · obtain ⟨m, hm⟩ := h.maxlen
    exact ⟨m, by rw [hx _ _ (by decide)]; exact hm⟩

set_option maxRecDepth 100000 in
set_option maxHeartbeats 1000000 in
theorem shapeName_any (k : Nat) (w : World) (hT : Tabs w) (h : k < 7) :
    Calls Tryz.prog 28 #[.int .i64 k] w fun e w' => e = .returned (.string ⟨(sNames.getD k []).toArray⟩) ∧ w = w' := by
  have hc := hT.shapes k h
  generalize (⟨(sNames.getD k []).toArray⟩ : ByteArray) = s at *
  go_enter Tryz.func28, Tryz.ntmps28
  go_wp2
  go_ret
  exact ⟨rfl, rfl⟩
set_option maxRecDepth 100000 in
set_option maxHeartbeats 1000000 in
theorem colourName_any (k : Nat) (w : World) (hT : Tabs w) (h : k < 9) :
    Calls Tryz.prog 32 #[.int .i64 k] w fun e w' => e = .returned (.string ⟨(cNames.getD k []).toArray⟩) ∧ w = w' := by
  have hc := hT.colours k h
  generalize (⟨(cNames.getD k []).toArray⟩ : ByteArray) = s at *
  go_enter Tryz.func32, Tryz.ntmps32
  go_wp2
  go_ret
  exact ⟨rfl, rfl⟩
set_option maxRecDepth 100000 in
set_option maxHeartbeats 1000000 in
theorem kindName_any (k : Nat) (w : World) (hT : Tabs w) (h : k < 7) :
    Calls Tryz.prog 30 #[.int .i64 k] w fun e w' => e = .returned (.string ⟨(kNames.getD k []).toArray⟩) ∧ w = w' := by
  have hc := (hT.kinds.2 k h).1
  rw [Nat.mul_comm] at hc
  generalize (⟨(kNames.getD k []).toArray⟩ : ByteArray) = s at *
  go_enter Tryz.func30, Tryz.ntmps30
  go_wp2
  go_ret
  exact ⟨rfl, rfl⟩

theorem cut_at (s sep a b : ByteArray) (f : Bool) (w : World) (hT : Tabs w) (hs : s.size < 4294967281) (h : Lib.cut s.data.toList sep.data.toList = (a.data.toList, b.data.toList, f)) :
    Calls Tryz.prog 17 #[.string s, .string sep] w fun e w' => e = .returned (.tuple #[.string a, .string b, .bool f]) ∧ ∃ n, w' = w.drewN n := by
  obtain ⟨m, hm⟩ := hT.maxlen
  refine (Tryz.strings_Cut s sep m w hs hm).mono ?_
  rintro e w' ⟨rfl, hw⟩
  rw [h]
  exact ⟨rfl, hw⟩

set_option maxRecDepth 100000 in
set_option maxHeartbeats 1000000 in
theorem numbered_shape (word : ByteArray) (last k : Nat) (w : World) (hT : Tabs w) (h1 : 1 ≤ k) (hk : k ≤ last) (hl : last < 7)
    (hf : Hid (((⟨(sNames.getD k []).toArray⟩ : ByteArray).toList == word.toList) = true)) (hn : Hid (∀ n, n < k → 1 ≤ n → ((⟨(sNames.getD n []).toArray⟩ : ByteArray).toList == word.toList) = false)) :
    Calls Tryz.prog 27 #[.string word, .int .i64 last, .func (.func 28) #[] #[]] w fun e w' => e = .returned (.tuple #[.int .i64 k, .bool true]) ∧ w = w' := by
  go_enter Tryz.func27, Tryz.ntmps27
  go_wp2_with fail
  go_loop [8] (fun i => ∃ n : Nat, 1 ≤ n ∧ n ≤ k ∧ i = .int .i64 n) (fun i => k + 1 - (intOf i).toNat)
  case atStart => exact ⟨1, by omega, h1, rfl⟩
  case round =>
    obtain ⟨n, n1, nk, rfl⟩ := hrel
    by_cases hlt : n < k
    · have H := Lib.hid (hn.out n hlt n1)
      have HC := Lib.hid (shapeName_any n w hT (by omega))
      go_wp2_with fail
      refine HC.out.mono ?_
      rintro e w' ⟨rfl, rfl⟩
      have HH := H.out
      generalize (⟨(sNames.getD n []).toArray⟩ : ByteArray) = nw at *
      go_wp2_with fail
      go_round
      case rel => exact ⟨n + 1, by omega, by omega, by go_num⟩
      case measure => simp [intOf]; omega
    · obtain rfl : n = k := by omega
      have HC := Lib.hid (shapeName_any n w hT (by omega))
      go_wp2_with fail
      refine HC.out.mono ?_
      rintro e w' ⟨rfl, rfl⟩
      have HH := hf.out
      generalize (⟨(sNames.getD n []).toArray⟩ : ByteArray) = nw at *
      go_wp2_with fail
      go_ret2
      exact ⟨rfl, rfl⟩

set_option maxRecDepth 100000 in
set_option maxHeartbeats 1000000 in
theorem numbered_kind (word : ByteArray) (last k : Nat) (w : World) (hT : Tabs w) (h1 : 1 ≤ k) (hk : k ≤ last) (hl : last < 7)
    (hf : Hid (((⟨(kNames.getD k []).toArray⟩ : ByteArray).toList == word.toList) = true)) (hn : Hid (∀ n, n < k → 1 ≤ n → ((⟨(kNames.getD n []).toArray⟩ : ByteArray).toList == word.toList) = false)) :
    Calls Tryz.prog 27 #[.string word, .int .i64 last, .func (.func 30) #[] #[]] w fun e w' => e = .returned (.tuple #[.int .i64 k, .bool true]) ∧ w = w' := by
  go_enter Tryz.func27, Tryz.ntmps27
  go_wp2_with fail
  go_loop [8] (fun i => ∃ n : Nat, 1 ≤ n ∧ n ≤ k ∧ i = .int .i64 n) (fun i => k + 1 - (intOf i).toNat)
  case atStart => exact ⟨1, by omega, h1, rfl⟩
  case round =>
    obtain ⟨n, n1, nk, rfl⟩ := hrel
    by_cases hlt : n < k
    · have H := Lib.hid (hn.out n hlt n1)
      have HC := Lib.hid (kindName_any n w hT (by omega))
      go_wp2_with fail
      refine HC.out.mono ?_
      rintro e w' ⟨rfl, rfl⟩
      have HH := H.out
      generalize (⟨(kNames.getD n []).toArray⟩ : ByteArray) = nw at *
      go_wp2_with fail
      go_round
      case rel => exact ⟨n + 1, by omega, by omega, by go_num⟩
      case measure => simp [intOf]; omega
    · obtain rfl : n = k := by omega
      have HC := Lib.hid (kindName_any n w hT (by omega))
      go_wp2_with fail
      refine HC.out.mono ?_
      rintro e w' ⟨rfl, rfl⟩
      have HH := hf.out
      generalize (⟨(kNames.getD n []).toArray⟩ : ByteArray) = nw at *
      go_wp2_with fail
      go_ret2
      exact ⟨rfl, rfl⟩

set_option maxRecDepth 100000 in
set_option maxHeartbeats 1000000 in
theorem numbered_colour (word : ByteArray) (last k : Nat) (w : World) (hT : Tabs w) (h1 : 1 ≤ k) (hk : k ≤ last) (hl : last < 9)
    (hf : Hid (((⟨(cNames.getD k []).toArray⟩ : ByteArray).toList == word.toList) = true)) (hn : Hid (∀ n, n < k → 1 ≤ n → ((⟨(cNames.getD n []).toArray⟩ : ByteArray).toList == word.toList) = false)) :
    Calls Tryz.prog 27 #[.string word, .int .i64 last, .func (.func 32) #[] #[]] w fun e w' => e = .returned (.tuple #[.int .i64 k, .bool true]) ∧ w = w' := by
  go_enter Tryz.func27, Tryz.ntmps27
  go_wp2_with fail
  go_loop [8] (fun i => ∃ n : Nat, 1 ≤ n ∧ n ≤ k ∧ i = .int .i64 n) (fun i => k + 1 - (intOf i).toNat)
  case atStart => exact ⟨1, by omega, h1, rfl⟩
  case round =>
    obtain ⟨n, n1, nk, rfl⟩ := hrel
    by_cases hlt : n < k
    · have H := Lib.hid (hn.out n hlt n1)
      have HC := Lib.hid (colourName_any n w hT (by omega))
      go_wp2_with fail
      refine HC.out.mono ?_
      rintro e w' ⟨rfl, rfl⟩
      have HH := H.out
      generalize (⟨(cNames.getD n []).toArray⟩ : ByteArray) = nw at *
      go_wp2_with fail
      go_round
      case rel => exact ⟨n + 1, by omega, by omega, by go_num⟩
      case measure => simp [intOf]; omega
    · obtain rfl : n = k := by omega
      have HC := Lib.hid (colourName_any n w hT (by omega))
      go_wp2_with fail
      refine HC.out.mono ?_
      rintro e w' ⟨rfl, rfl⟩
      have HH := hf.out
      generalize (⟨(cNames.getD n []).toArray⟩ : ByteArray) = nw at *
      go_wp2_with fail
      go_ret2
      exact ⟨rfl, rfl⟩

end Go.Proofs.YtbogmdelceikgaaGreatDoor
