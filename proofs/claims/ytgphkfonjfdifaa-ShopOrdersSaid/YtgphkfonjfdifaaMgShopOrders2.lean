/-
  The walks of slices.IndexFunc and ContainsFunc over ints, jobs and steps. By an AI agent.; The walk of Valid of package shop. By an AI agent.; The walks of jobsValid and Valid of package shop, and of long. By an AI agent.; The walk of after of package shop. By an AI agent.
-/
import Derived.Test.YtgphkfonjfdifaaMgShopOrders1
import Derived.Laws.EntriesVeiled

namespace Go.Proofs.Ytgphkfonjfdifaa
set_option linter.unusedVariables false
set_option linter.unusedSimpArgs false
open Go.RowKit

set_option maxRecDepth 100000 in
set_option maxHeartbeats 1000000 in
theorem idxInt_any (aa : Option Addr) (l : List Int) (ca : Nat) (lb : Array Value) (p : Nat → Bool) (w : World) (hI : IntsS w aa l)
    (hp : ∀ j W, j < l.length → Below w.heap.size w W → Calls Try.prog 85 (#[.int .i64 (gi l j)] ++ lb) W fun e w' => e = .returned (.bool (p j)) ∧ Below W.heap.size W w') :
    Calls Try.prog 90 #[.slice aa l.length ca, .func (.func 85) #[] lb] w fun e w' => e = .returned (.int .i64 (idxK p l.length)) ∧ Below w.heap.size w w' := by
  obtain ⟨hlen, hbd, blk, off, hadr, hc⟩ := hI
  have HC := Lib.hid hc
  have HL : Hid (0 < l.length → aa = some ⟨blk, off, none⟩) := Lib.hid fun h => hadr (fun e => by rw [e] at h; simp at h)
  clear hc hadr hbd
  have HP := Lib.hid hp
  have HH : Hid (∀ k, k < l.length → p k = true → (∀ j, j < k → p j = false) → idxK p l.length = k) := Lib.hid fun k hk h hb => idxK_hit h hb _ hk
  have HM : Hid ((∀ j, j < l.length → p j = false) → idxK p l.length = -1) := Lib.hid fun h => idxK_miss _ h
  generalize idxK p l.length = R at *
  clear hp
  go_enter Try.func90, Try.ntmps90
  go_wp2_with fail
  go_loopw [8] (fun i wr => ∃ k : Nat, k ≤ l.length ∧ i = .int .i64 k ∧ Below w.heap.size w wr ∧ Hid (∀ j, j < k → p j = false)) (fun i _ => l.length - (intOf i).toNat)
  case atStart => exact ⟨0, Nat.zero_le _, rfl, Below.refl _ _, Lib.hid fun j hj => absurd hj (Nat.not_lt_zero _)⟩
  case round =>
    obtain ⟨k, hk, rfl, hb, HA⟩ := hrel
    by_cases hlt : k < l.length
    · obtain rfl := HL.out (by omega)
      have c0 := cell_below (HC.out k hlt) hb
      have HK := Lib.hid (fun W => HP.out k W hlt)
      have HHk := Lib.hid (HH.out k hlt)
      have HN : Hid (p k = false → ∀ j, j < k + 1 → p j = false) := Lib.hid fun h j hj => by
        by_cases e : j = k
        · subst e; exact h
        · exact HA.out j (by omega)
      clear HP HC HM HL HH
      generalize gi l k = x at *
      cases hpk : p k with
      | true =>
        have HR := Lib.hid (HHk.out hpk HA.out)
        rw [hpk] at HK
        clear hpk HHk HN
        go_wp2_with fail
        refine (HK.out _ hb).mono ?_
        rintro e w1 ⟨rfl, hb1⟩
        go_wp2_with fail
        go_ret
        rw [HR.out]
        exact ⟨rfl, hb.trans (hb1.mono hb.size)⟩
      | false =>
        have HR := Lib.hid (HN.out hpk)
        rw [hpk] at HK
        clear hpk HHk HN
        go_wp2_with fail
        refine (HK.out _ hb).mono ?_
        rintro e w1 ⟨rfl, hb1⟩
        go_wp2_with fail
        go_roundw
        case rel => exact ⟨k + 1, by omega, by go_num, hb.trans (hb1.mono hb.size), HR⟩
        case measure => simp [intOf]; omega
    · obtain rfl : k = l.length := by omega
      have HR := Lib.hid (HM.out HA.out)
      clear HC HL HP HM HH hlt
      go_wp2_with fail
      go_ret
      rw [HR.out]
      exact ⟨rfl, hb⟩

set_option maxRecDepth 100000 in
theorem containsInt_any (aa : Option Addr) (l : List Int) (ca : Nat) (lb : Array Value) (p : Nat → Bool) (w : World) (hI : IntsS w aa l)
    (hp : ∀ j W, j < l.length → Below w.heap.size w W → Calls Try.prog 85 (#[.int .i64 (gi l j)] ++ lb) W fun e w' => e = .returned (.bool (p j)) ∧ Below W.heap.size W w') :
    Calls Try.prog 74 #[.slice aa l.length ca, .func (.func 85) #[] lb] w fun e w' => e = .returned (.bool (anyK p l.length)) ∧ Below w.heap.size w w' := by
  have H := Lib.hid (idxInt_any aa l ca lb p w hI hp)
  have hq := Lib.hid (idxK_any p l.length)
  clear hp hI
  generalize idxK p l.length = R at *
  generalize anyK p l.length = B at *
  have hq := hq.out
  subst hq
  go_enter Try.func74, Try.ntmps74
  go_wp2_with fail
  refine H.out.mono ?_
  rintro e w1 ⟨rfl, hb1⟩
  go_wp2_with fail
  all_goals
    go_ret
    exact ⟨by simp_all, hb1⟩

set_option maxRecDepth 100000 in
set_option maxHeartbeats 1000000 in
theorem idxStp_any (aa : Option Addr) (l : List Stp) (ca : Nat) (lb : Array Value) (p : Nat → Bool) (w : World) (hI : StepsS w aa l)
    (hp : ∀ j W, j < l.length → Below w.heap.size w W → Calls Try.prog 86 (#[.agg #[.int .i64 (gs l j).1, .int .i64 (gs l j).2.1, .int .i64 (gs l j).2.2.1, .int .i64 (gs l j).2.2.2]] ++ lb) W fun e w' => e = .returned (.bool (p j)) ∧ Below W.heap.size W w') :
    Calls Try.prog 98 #[.slice aa l.length ca, .func (.func 86) #[] lb] w fun e w' => e = .returned (.int .i64 (idxK p l.length)) ∧ Below w.heap.size w w' := by
  obtain ⟨hlen, hbd, blk, off, hadr, hc⟩ := hI
  have HC := Lib.hid hc
  have HL : Hid (0 < l.length → aa = some ⟨blk, off, none⟩) := Lib.hid fun h => hadr (fun e => by rw [e] at h; simp at h)
  clear hc hadr hbd
  have HP := Lib.hid hp
  have HH : Hid (∀ k, k < l.length → p k = true → (∀ j, j < k → p j = false) → idxK p l.length = k) := Lib.hid fun k hk h hb => idxK_hit h hb _ hk
  have HM : Hid ((∀ j, j < l.length → p j = false) → idxK p l.length = -1) := Lib.hid fun h => idxK_miss _ h
  generalize idxK p l.length = R at *
  clear hp
  go_enter Try.func98, Try.ntmps98
  go_wp2_with fail
  go_loopw [8] (fun i wr => ∃ k : Nat, k ≤ l.length ∧ i = .int .i64 k ∧ Below w.heap.size w wr ∧ Hid (∀ j, j < k → p j = false)) (fun i _ => l.length - (intOf i).toNat)
  case atStart => exact ⟨0, Nat.zero_le _, rfl, Below.refl _ _, Lib.hid fun j hj => absurd hj (Nat.not_lt_zero _)⟩
  case round =>
    obtain ⟨k, hk, rfl, hb, HA⟩ := hrel
    by_cases hlt : k < l.length
    · obtain rfl := HL.out (by omega)
      obtain ⟨c0, c1, c2, c3⟩ := HC.out k hlt
      have c0 := cell_below c0 hb
      have c1 := cell_below c1 hb
      have c2 := cell_below c2 hb
      have c3 := cell_below c3 hb
      have HK := Lib.hid (fun W => HP.out k W hlt)
      have HHk := Lib.hid (HH.out k hlt)
      have HN : Hid (p k = false → ∀ j, j < k + 1 → p j = false) := Lib.hid fun h j hj => by
        by_cases e : j = k
        · subst e; exact h
        · exact HA.out j (by omega)
      clear HP HC HM HL HH
      generalize (gs l k).1 = x at *
      generalize (gs l k).2.1 = x1 at *
      generalize (gs l k).2.2.1 = x2 at *
      generalize (gs l k).2.2.2 = x3 at *
      cases hpk : p k with
      | true =>
        have HR := Lib.hid (HHk.out hpk HA.out)
        rw [hpk] at HK
        clear hpk HHk HN
        go_wp2_with fail
        refine (HK.out _ hb).mono ?_
        rintro e w1 ⟨rfl, hb1⟩
        go_wp2_with fail
        go_ret
        rw [HR.out]
        exact ⟨rfl, hb.trans (hb1.mono hb.size)⟩
      | false =>
        have HR := Lib.hid (HN.out hpk)
        rw [hpk] at HK
        clear hpk HHk HN
        go_wp2_with fail
        refine (HK.out _ hb).mono ?_
        rintro e w1 ⟨rfl, hb1⟩
        go_wp2_with fail
        go_roundw
        case rel => exact ⟨k + 1, by omega, by go_num, hb.trans (hb1.mono hb.size), HR⟩
        case measure => simp [intOf]; omega
    · obtain rfl : k = l.length := by omega
      have HR := Lib.hid (HM.out HA.out)
      clear HC HL HP HM HH hlt
      go_wp2_with fail
      go_ret
      rw [HR.out]
      exact ⟨rfl, hb⟩

set_option maxRecDepth 100000 in
theorem containsStp_any (aa : Option Addr) (l : List Stp) (ca : Nat) (lb : Array Value) (p : Nat → Bool) (w : World) (hI : StepsS w aa l)
    (hp : ∀ j W, j < l.length → Below w.heap.size w W → Calls Try.prog 86 (#[.agg #[.int .i64 (gs l j).1, .int .i64 (gs l j).2.1, .int .i64 (gs l j).2.2.1, .int .i64 (gs l j).2.2.2]] ++ lb) W fun e w' => e = .returned (.bool (p j)) ∧ Below W.heap.size W w') :
    Calls Try.prog 89 #[.slice aa l.length ca, .func (.func 86) #[] lb] w fun e w' => e = .returned (.bool (anyK p l.length)) ∧ Below w.heap.size w w' := by
  have H := Lib.hid (idxStp_any aa l ca lb p w hI hp)
  have hq := Lib.hid (idxK_any p l.length)
  clear hp hI
  generalize idxK p l.length = R at *
  generalize anyK p l.length = B at *
  have hq := hq.out
  subst hq
  go_enter Try.func89, Try.ntmps89
  go_wp2_with fail
  refine H.out.mono ?_
  rintro e w1 ⟨rfl, hb1⟩
  go_wp2_with fail
  all_goals
    go_ret
    exact ⟨by simp_all, hb1⟩

/-- A slice of jobs, with the places of their steps. -/
def JobsAt (w : World) (a : Option Addr) (r : List (List Stp)) (blk off : Nat) (ad : Nat → Option Addr) (cp : Nat → Nat) : Prop :=
  r.length ≤ 9223372036854775807 ∧ (r ≠ [] → a = some ⟨blk, off, none⟩) ∧ ∀ i, i < r.length → w.cell? ⟨blk, off + i, none⟩ = some (.slice (ad i) (gj r i).length (cp i)) ∧ StepsS w (ad i) (gj r i) ∧ (gj r i).length ≤ cp i
theorem JobsAt.below {w w' : World} {a : Option Addr} {r : List (List Stp)} {blk off : Nat} {ad : Nat → Option Addr} {cp : Nat → Nat} (h : JobsAt w a r blk off ad cp) (hb : Below w.heap.size w w') : JobsAt w' a r blk off ad cp := by
  obtain ⟨h0, h2, h3⟩ := h
  exact ⟨h0, h2, fun i hi => by
    have hx := h3 i hi
    rw [hb.cell (p := ⟨blk, off + i, none⟩) (block_lt hx.1)]; exact ⟨hx.1, hx.2.1.below hb, hx.2.2⟩⟩
theorem JobsS.at {w : World} {a : Option Addr} {r : List (List Stp)} (h : JobsS w a r) : ∃ blk off ad cp, JobsAt w a r blk off ad cp := by
  obtain ⟨h0, blk, off, ad, cp, h2, h3⟩ := h
  exact ⟨blk, off, ad, cp, h0, h2, h3⟩

set_option maxRecDepth 100000 in
set_option maxHeartbeats 1000000 in
theorem idxJob_any (aa : Option Addr) (l : List (List Stp)) (blk off : Nat) (ad : Nat → Option Addr) (cp : Nat → Nat) (ca : Nat) (lb : Array Value) (p : Nat → Bool) (w : World) (hI : JobsAt w aa l blk off ad cp)
    (hp : ∀ j W, j < l.length → Below w.heap.size w W → Calls Try.prog 88 (#[.agg #[.slice (ad j) (gj l j).length (cp j)]] ++ lb) W fun e w' => e = .returned (.bool (p j)) ∧ Below W.heap.size W w') :
    Calls Try.prog 97 #[.slice aa l.length ca, .func (.func 88) #[] lb] w fun e w' => e = .returned (.int .i64 (idxK p l.length)) ∧ Below w.heap.size w w' := by
  obtain ⟨hlen, hadr, hc⟩ := hI
  have HC := Lib.hid hc
  have HL : Hid (0 < l.length → aa = some ⟨blk, off, none⟩) := Lib.hid fun h => hadr (fun e => by rw [e] at h; simp at h)
  clear hc hadr
  have HP := Lib.hid hp
  have HH : Hid (∀ k, k < l.length → p k = true → (∀ j, j < k → p j = false) → idxK p l.length = k) := Lib.hid fun k hk h hb => idxK_hit h hb _ hk
  have HM : Hid ((∀ j, j < l.length → p j = false) → idxK p l.length = -1) := Lib.hid fun h => idxK_miss _ h
  generalize idxK p l.length = R at *
  clear hp
  go_enter Try.func97, Try.ntmps97
  go_wp2_with fail
  go_loopw [8] (fun i wr => ∃ k : Nat, k ≤ l.length ∧ i = .int .i64 k ∧ Below w.heap.size w wr ∧ Hid (∀ j, j < k → p j = false)) (fun i _ => l.length - (intOf i).toNat)
  case atStart => exact ⟨0, Nat.zero_le _, rfl, Below.refl _ _, Lib.hid fun j hj => absurd hj (Nat.not_lt_zero _)⟩
  case round =>
    obtain ⟨k, hk, rfl, hb, HA⟩ := hrel
    by_cases hlt : k < l.length
    · obtain rfl := HL.out (by omega)
      have c0 := cell_below (HC.out k hlt).1 hb
      have HK := Lib.hid (fun W => HP.out k W hlt)
      have HHk := Lib.hid (HH.out k hlt)
      have HN : Hid (p k = false → ∀ j, j < k + 1 → p j = false) := Lib.hid fun h j hj => by
        by_cases e : j = k
        · subst e; exact h
        · exact HA.out j (by omega)
      clear HP HC HM HL HH
      generalize ad k = x at *
      generalize (gj l k).length = x1 at *
      generalize cp k = x2 at *
      cases hpk : p k with
      | true =>
        have HR := Lib.hid (HHk.out hpk HA.out)
        rw [hpk] at HK
        clear hpk HHk HN
        go_wp2_with fail
        refine (HK.out _ hb).mono ?_
        rintro e w1 ⟨rfl, hb1⟩
        go_wp2_with fail
        go_ret
        rw [HR.out]
        exact ⟨rfl, hb.trans (hb1.mono hb.size)⟩
      | false =>
        have HR := Lib.hid (HN.out hpk)
        rw [hpk] at HK
        clear hpk HHk HN
        go_wp2_with fail
        refine (HK.out _ hb).mono ?_
        rintro e w1 ⟨rfl, hb1⟩
        go_wp2_with fail
        go_roundw
        case rel => exact ⟨k + 1, by omega, by go_num, hb.trans (hb1.mono hb.size), HR⟩
        case measure => simp [intOf]; omega
    · obtain rfl : k = l.length := by omega
      have HR := Lib.hid (HM.out HA.out)
      clear HC HL HP HM HH hlt
      go_wp2_with fail
      go_ret
      rw [HR.out]
      exact ⟨rfl, hb⟩

set_option maxRecDepth 100000 in
theorem containsJob_any (aa : Option Addr) (l : List (List Stp)) (blk off : Nat) (ad : Nat → Option Addr) (cp : Nat → Nat) (ca : Nat) (lb : Array Value) (p : Nat → Bool) (w : World) (hI : JobsAt w aa l blk off ad cp)
    (hp : ∀ j W, j < l.length → Below w.heap.size w W → Calls Try.prog 88 (#[.agg #[.slice (ad j) (gj l j).length (cp j)]] ++ lb) W fun e w' => e = .returned (.bool (p j)) ∧ Below W.heap.size W w') :
    Calls Try.prog 87 #[.slice aa l.length ca, .func (.func 88) #[] lb] w fun e w' => e = .returned (.bool (anyK p l.length)) ∧ Below w.heap.size w w' := by
  have H := Lib.hid (idxJob_any aa l blk off ad cp ca lb p w hI hp)
  have hq := Lib.hid (idxK_any p l.length)
  clear hp hI
  generalize idxK p l.length = R at *
  generalize anyK p l.length = B at *
  have hq := hq.out
  subst hq
  go_enter Try.func87, Try.ntmps87
  go_wp2_with fail
  refine H.out.mono ?_
  rintro e w1 ⟨rfl, hb1⟩
  go_wp2_with fail
  all_goals
    go_ret
    exact ⟨by simp_all, hb1⟩

end Go.Proofs.Ytgphkfonjfdifaa

namespace Go.Proofs.Ytgphkfonjfdifaa
set_option linter.unusedVariables false
set_option linter.unusedSimpArgs false
open Go.RowKit

open Classical in
noncomputable def holB (l : List Int) : Bool := decide (HolOk l)
theorem holB_iff {l : List Int} : holB l = true ↔ HolOk l := by unfold holB; simp
theorem holB_t {l : List Int} (h : HolOk l) : holB l = true := holB_iff.2 h
theorem holB_f {l : List Int} (h : ¬ HolOk l) : holB l = false := by rw [Bool.eq_false_iff]; exact fun g => h (holB_iff.1 g)
def MachOk (s : Sh) : Prop := (1 ≤ s.M ∧ s.M ≤ 6) ∧ (s.S.length : Int) = s.M ∧ ∀ j, j < s.S.length → setAt s.S j
open Classical in
noncomputable def machB (s : Sh) : Bool := decide (MachOk s)
theorem machB_iff {s : Sh} : machB s = true ↔ MachOk s := by unfold machB; simp
theorem machB_t {s : Sh} (h : MachOk s) : machB s = true := machB_iff.2 h
theorem machB_f {s : Sh} (h : ¬ MachOk s) : machB s = false := by rw [Bool.eq_false_iff]; exact fun g => h (machB_iff.1 g)
def JobsOk (s : Sh) : Prop := s.J.length ≤ 12 ∧ ∀ i, i < s.J.length → jobOk s.O s.C s.M (gj s.J i)
open Classical in
noncomputable def jobsB (s : Sh) : Bool := decide (JobsOk s)
theorem jobsB_iff {s : Sh} : jobsB s = true ↔ JobsOk s := by unfold jobsB; simp
theorem jobsB_t {s : Sh} (h : JobsOk s) : jobsB s = true := jobsB_iff.2 h
theorem jobsB_f {s : Sh} (h : ¬ JobsOk s) : jobsB s = false := by rw [Bool.eq_false_iff]; exact fun g => h (jobsB_iff.1 g)
open Classical in
noncomputable def shB (s : Sh) : Bool := decide (ShOk s)
theorem shB_iff {s : Sh} : shB s = true ↔ ShOk s := by unfold shB; simp
theorem shB_t {s : Sh} (h : ShOk s) : shB s = true := shB_iff.2 h
theorem shB_f {s : Sh} (h : ¬ ShOk s) : shB s = false := by rw [Bool.eq_false_iff]; exact fun g => h (shB_iff.1 g)

set_option maxRecDepth 100000 in
set_option maxHeartbeats 1000000 in
theorem holValid_any (aa : Option Addr) (l : List Int) (ca : Nat) (w : World) (hI : IntsS w aa l) :
    Calls Try.prog 68 #[.slice aa l.length ca] w fun e w' => e = .returned (.bool (holB l)) ∧ Below w.heap.size w w' := by
  obtain ⟨hlen, hbd, blk, off, hadr, hc⟩ := hI
  have HC := Lib.hid hc
  have HL : Hid (0 < l.length → aa = some ⟨blk, off, none⟩) := Lib.hid fun h => hadr (fun e => by rw [e] at h; simp at h)
  have HT : Hid (l.length ≤ 400 → (∀ j, j < l.length → hokAt l j) → holB l = true) := Lib.hid fun h1 h2 => holB_t ⟨h1, h2⟩
  have HF : Hid (∀ k, k < l.length → ¬ hokAt l k → holB l = false) := Lib.hid fun k hk h => holB_f fun g => h (g.2 k hk)
  have HG : Hid (¬ l.length ≤ 400 → holB l = false) := Lib.hid fun h => holB_f fun g => h g.1
  generalize holB l = R at *
  clear hc hadr hbd
  by_cases h4 : l.length ≤ 400
  · have hn : ¬ (400 : Int) < l.length := by omega
    have HT := Lib.hid (HT.out h4)
    clear HG
    go_enter Try.func68, Try.ntmps68
    go_wp2_with fail
    go_loopw [3, 11] (fun x i wr => ∃ k : Nat, k ≤ l.length ∧ i = .int .i64 k ∧ (∃ b : Int, x = .int .i64 b ∧ -1 ≤ b ∧ b ≤ 10000 ∧ Hid ((k = 0 ∧ b = -1) ∨ (0 < k ∧ b = gi l (k - 1)))) ∧ Below w.heap.size w wr ∧ Hid (∀ j, j < k → hokAt l j)) (fun _ i _ => l.length - (intOf i).toNat)
    case atStart => exact ⟨0, Nat.zero_le _, rfl, ⟨-1, rfl, by omega, by omega, Lib.hid (.inl ⟨rfl, rfl⟩)⟩, Below.refl _ _, Lib.hid fun j hj => absurd hj (Nat.not_lt_zero _)⟩
    case round =>
      obtain ⟨k, hk, rfl, ⟨b, rfl, b0, b1, HX⟩, hb, HA⟩ := hrel
      by_cases hlt : k < l.length
      · obtain rfl := HL.out (by omega)
        have c0 := cell_below (HC.out k hlt) hb
        have HK : Hid (hokAt l k → ∀ j, j < k + 1 → hokAt l j) := Lib.hid fun h j hj => by
          by_cases e : j = k
          · subst e; exact h
          · exact HA.out j (by omega)
        have HFk := Lib.hid (HF.out k hlt)
        have HE : Hid (hokAt l k ↔ b + 1 ≤ gi l k ∧ gi l k ≤ 10000) := Lib.hid (by
          unfold hokAt
          rcases HX.out with ⟨rfl, rfl⟩ | ⟨h1, rfl⟩
          · simp
          · have := (HA.out (k - 1) (by omega)).1
            constructor
            · rintro ⟨x1, x2, x3 | x3⟩
              · omega
              · omega
            · rintro ⟨x1, x2⟩; exact ⟨by omega, x2, .inr (by omega)⟩)
        have HN : Hid ((k + 1 = 0 ∧ gi l k = -1) ∨ (0 < k + 1 ∧ gi l k = gi l (k + 1 - 1))) := Lib.hid (.inr ⟨by omega, by rw [Nat.add_sub_cancel]⟩)
        clear HC HL HT HF HX
        generalize hgx : gi l k = x at c0 HE HN
        clear hgx
        by_cases hx : b + 1 ≤ x ∧ x ≤ 10000
        · have HR := Lib.hid (HK.out (HE.out.2 hx))
          have HB := Lib.hid (btw_t hx.1 hx.2)
          obtain ⟨x1, x2⟩ := hx
          clear HK HE HFk
          go_wp2_with (go_at_call 53; refine (sbt_any _ _ _ _).mono ?_; rintro e w' ⟨rfl, rfl⟩; rw [HB.out])
          go_roundw
          case rel => exact ⟨k + 1, by omega, by go_num, ⟨x, rfl, by omega, by omega, HN⟩, hb, HR⟩
          case measure => simp [intOf]; omega
        · have HR := Lib.hid (HFk.out (fun h => hx (HE.out.1 h)))
          have HB := Lib.hid (btw_f hx)
          clear HK HE HFk hx
          go_wp2_with (go_at_call 53; refine (sbt_any _ _ _ _).mono ?_; rintro e w' ⟨rfl, rfl⟩; rw [HB.out])
          go_ret
          rw [HR.out]
          exact ⟨rfl, hb⟩
      · obtain rfl : k = l.length := by omega
        have HR := Lib.hid (HT.out HA.out)
        clear HC HL HT HF HX hlt
        go_wp2_with fail
        go_ret
        rw [HR.out]
        exact ⟨rfl, hb⟩
  · have hn : (400 : Int) < l.length := by omega
    have HR := Lib.hid (HG.out h4)
    clear HG HT HF HC HL
    go_enter Try.func68, Try.ntmps68
    go_wp2_with fail
    go_ret
    rw [HR.out]
    exact ⟨rfl, Below.refl _ _⟩

theorem mach1_any (x : Int) (w : World) : Calls Try.prog 85 #[.int .i64 x] w fun e w' => e = .returned (.bool (!(btw x 0 1000))) ∧ Below w.heap.size w w' := by
  go_enter Try.func85, Try.ntmps85
  go_wp2_with (go_at_call 53; refine (sbt_any _ _ _ _).mono ?_; rintro e w' ⟨rfl, rfl⟩)
  go_ret
  exact ⟨rfl, Below.refl _ _⟩

set_option maxRecDepth 100000 in
set_option maxHeartbeats 1000000 in
theorem machValid_any (s : Sh) (w : World) (hI : IntsS w s.aS s.S) :
    Calls Try.prog 69 #[.agg #[.int .i64 s.O, .int .i64 s.C, .slice s.aH s.H.length s.cH, .int .i64 s.M, .slice s.aS s.S.length s.cS, .slice s.aJ s.J.length s.cJ]] w fun e w' => e = .returned (.bool (machB s)) ∧ Below w.heap.size w w' := by
  have hlen := hI.1
  have HCt : Hid (∀ W, Below w.heap.size w W → Calls Try.prog 74 #[.slice s.aS s.S.length s.cS, .func (.func 85) #[] #[]] W fun e w' => e = .returned (.bool (anyK (fun j => !(btw (gi s.S j) 0 1000)) s.S.length)) ∧ Below W.heap.size W w') :=
    Lib.hid fun W hW => containsInt_any s.aS s.S s.cS #[] _ W (hI.below hW) (fun j W' hj hW' => mach1_any _ W')
  have HV : Hid ((1 ≤ s.M ∧ s.M ≤ 6) → (s.S.length : Int) = s.M → machB s = !(anyK (fun j => !(btw (gi s.S j) 0 1000)) s.S.length)) := Lib.hid fun h1 h2 => by
    cases h : anyK (fun j => !(btw (gi s.S j) 0 1000)) s.S.length with
    | false =>
      refine machB_t ⟨h1, h2, fun j hj => ?_⟩
      have := (anyK_iff _).1 h j hj
      simp only [Bool.not_eq_false', btw_iff] at this
      exact this
    | true =>
      refine machB_f fun g => ?_
      rw [(anyK_iff _).2 fun j hj => ?_] at h
      · cases h
      · have := g.2.2 j hj
        unfold setAt at this
        simp only [Bool.not_eq_false', btw_iff]
        exact this
  have HF1 : Hid (¬ (1 ≤ s.M ∧ s.M ≤ 6) → machB s = false) := Lib.hid fun h => machB_f fun g => h g.1
  have HF2 : Hid ((s.S.length : Int) ≠ s.M → machB s = false) := Lib.hid fun h => machB_f fun g => h g.2.1
  have hB := ShBox.start w s 25
  generalize anyK (fun j => !(btw (gi s.S j) 0 1000)) s.S.length = K at *
  generalize machB s = R at *
  clear hI
  by_cases h1 : 1 ≤ s.M ∧ s.M ≤ 6
  · have HB := Lib.hid (btw_t h1.1 h1.2)
    by_cases h2 : (s.S.length : Int) = s.M
    · have HR := Lib.hid (HV.out h1 h2)
      have h2' : ((s.S.length : Int) != s.M) = false := by simpa using h2
      clear HV HF1 HF2 h1 h2
      go_enter Try.func69, Try.ntmps69
      go_wp2_with (go_at_call 53; refine (sbt_any _ _ _ _).mono ?_; rintro e w' ⟨rfl, rfl⟩; rw [HB.out])
      obtain ⟨wB, hwB⟩ : ∃ wB, w.alloc (.cells #[.int .i64 s.O, .int .i64 s.C, .slice s.aH s.H.length s.cH, .int .i64 s.M, .slice s.aS s.S.length s.cS, .slice s.aJ s.J.length s.cJ] 25) = wB := ⟨_, rfl⟩
      rw [hwB] at hB ⊢
      clear hwB
      refine (HCt.out _ hB.1).mono ?_
      rintro e w1 ⟨rfl, hb1⟩
      go_wp2_with fail
      all_goals
        go_ret
        rw [HR.out]
        exact ⟨by first | rfl | simp_all, hB.1.trans (hb1.mono hB.1.size)⟩
    · have HR := Lib.hid (HF2.out h2)
      have h2' : ((s.S.length : Int) != s.M) = true := by simpa using h2
      clear HV HF1 HF2 h1 h2
      go_enter Try.func69, Try.ntmps69
      go_wp2_with (go_at_call 53; refine (sbt_any _ _ _ _).mono ?_; rintro e w' ⟨rfl, rfl⟩; rw [HB.out])
      go_ret
      rw [HR.out]
      exact ⟨rfl, hB.1⟩
  · have HB := Lib.hid (btw_f h1)
    have HR := Lib.hid (HF1.out h1)
    clear HV HF1 HF2 h1
    go_enter Try.func69, Try.ntmps69
    go_wp2_with (go_at_call 53; refine (sbt_any _ _ _ _).mono ?_; rintro e w' ⟨rfl, rfl⟩; rw [HB.out])
    go_ret
    rw [HR.out]
    exact ⟨rfl, hB.1⟩

def stpB (O C M : Int) (p : Stp) : Bool := btw p.1 0 (M - 1) && (btw p.2.1 1 (C - O) && (btw p.2.2.1 0 9 && btw p.2.2.2 0 10000))
theorem stpB_iff {O C M : Int} {p : Stp} : stpB O C M p = true ↔ stpOk O C M p := by
  unfold stpB stpOk; rw [Bool.and_eq_true, Bool.and_eq_true, Bool.and_eq_true, btw_iff, btw_iff, btw_iff, btw_iff]

set_option maxRecDepth 100000 in
set_option maxHeartbeats 1000000 in
/-- The closure of jobsValid for a step: it is wrong. -/
theorem jobs1_any (s : Sh) (x : Stp) (b : Nat) (w : World) (o0 : 0 ≤ s.O) (o1 : s.O < s.C) (o2 : s.C ≤ 1440) (m0 : 1 ≤ s.M) (m1 : s.M ≤ 6) (hS : ShAt w b s) :
    Calls Try.prog 86 #[.agg #[.int .i64 x.1, .int .i64 x.2.1, .int .i64 x.2.2.1, .int .i64 x.2.2.2], .pointer (some ⟨b, 0, none⟩)] w fun e w' => e = .returned (.bool (!(stpB s.O s.C s.M x))) ∧ Below w.heap.size w w' := by
  unfold stpB
  obtain ⟨x0, x1, x2, x3⟩ := x
  dsimp only
  obtain ⟨p0, p1, p2, p3, p4, p5⟩ := hS
  have z0 := block_lt p0
  have q : ∀ o O, (w.alloc O).cell? ⟨b, o, none⟩ = w.cell? ⟨b, o, none⟩ := fun o O => ((Below.refl w.heap.size w).alloc (Nat.le_refl _) O).cell (p := ⟨b, o, none⟩) z0
  have n1 : b ≠ w.heap.size := by omega
  generalize hg0 : btw x0 0 (s.M - 1) = g0
  generalize hg1 : btw x1 1 (s.C - s.O) = g1
  generalize hg2 : btw x2 0 9 = g2
  generalize hg3 : btw x3 0 10000 = g3
  have G0 := Lib.hid hg0
  have G1 := Lib.hid hg1
  have G2 := Lib.hid hg2
  have G3 := Lib.hid hg3
  clear hg0 hg1 hg2 hg3
  go_enter Try.func86, Try.ntmps86
  go_wp2_with (go_at_call 53; refine (sbt_any _ _ _ _).mono ?_; rintro e w' ⟨rfl, rfl⟩; first | rw [G0.out] | rw [G1.out] | rw [G2.out] | rw [G3.out])
  all_goals
    go_ret
    exact ⟨by first | rfl | simp_all, (Below.refl _ _).alloc (Nat.le_refl _) _⟩
end Go.Proofs.Ytgphkfonjfdifaa

namespace Go.Proofs.Ytgphkfonjfdifaa
set_option linter.unusedVariables false
set_option linter.unusedSimpArgs false
open Go.RowKit

/-- A job is wrong. -/
def jobW (O C M : Int) (l : List Stp) : Bool := decide (8 < l.length) || anyK (fun k => !(stpB O C M (gs l k))) l.length
theorem jobW_iff {O C M : Int} {l : List Stp} : jobW O C M l = false ↔ jobOk O C M l := by
  unfold jobW jobOk
  rw [Bool.or_eq_false_iff, decide_eq_false_iff_not, anyK_iff]
  constructor
  · rintro ⟨h1, h2⟩
    refine ⟨by omega, fun k hk => ?_⟩
    have := h2 k hk
    rw [Bool.not_eq_false'] at this
    exact stpB_iff.1 this
  · rintro ⟨h1, h2⟩
    refine ⟨by omega, fun k hk => ?_⟩
    rw [Bool.not_eq_false']
    exact stpB_iff.2 (h2 k hk)

set_option maxRecDepth 100000 in
set_option maxHeartbeats 1000000 in
/-- The closure of jobsValid for a job: it is wrong. -/
theorem jobs2_any (s : Sh) (aa : Option Addr) (l : List Stp) (ca : Nat) (b b2 : Nat) (w : World) (o0 : 0 ≤ s.O) (o1 : s.O < s.C) (o2 : s.C ≤ 1440) (m0 : 1 ≤ s.M) (m1 : s.M ≤ 6) (hI : StepsS w aa l) (hS : ShAt w b s) (hf : w.cell? ⟨b2, 0, none⟩ = some (.func (.func 86) #[] #[.pointer (some ⟨b, 0, none⟩)])) :
    Calls Try.prog 88 #[.agg #[.slice aa l.length ca], .pointer (some ⟨b2, 0, none⟩)] w fun e w' => e = .returned (.bool (jobW s.O s.C s.M l)) ∧ Below w.heap.size w w' := by
  have hlen := hI.1
  have HCt : Hid (∀ W, Below w.heap.size w W → Calls Try.prog 89 #[.slice aa l.length ca, .func (.func 86) #[] #[.pointer (some ⟨b, 0, none⟩)]] W fun e w' => e = .returned (.bool (anyK (fun k => !(stpB s.O s.C s.M (gs l k))) l.length)) ∧ Below W.heap.size W w') :=
    Lib.hid fun W hW => containsStp_any aa l ca #[.pointer (some ⟨b, 0, none⟩)] _ W (hI.below hW) (fun j W' hj hW' => jobs1_any s _ b W' o0 o1 o2 m0 m1 (hS.on (hW.trans (hW'.mono hW.size))))
  have z2 := block_lt hf
  have q : ∀ o O, (w.alloc O).cell? ⟨b2, o, none⟩ = w.cell? ⟨b2, o, none⟩ := fun o O => ((Below.refl w.heap.size w).alloc (Nat.le_refl _) O).cell (p := ⟨b2, o, none⟩) z2
  unfold jobW
  generalize anyK (fun k => !(stpB s.O s.C s.M (gs l k))) l.length = K at *
  clear hI hS
  by_cases h8 : 8 < l.length
  · have d1 : decide (8 < l.length) = true := by simpa using h8
    have n8 : (8 : Int) < l.length := by omega
    rw [d1, Bool.true_or]
    clear HCt d1
    go_enter Try.func88, Try.ntmps88
    go_wp2_with fail
    go_ret
    exact ⟨rfl, (Below.refl _ _).alloc (Nat.le_refl _) _⟩
  · have d1 : decide (8 < l.length) = false := by simpa using h8
    have n8 : ¬ (8 : Int) < l.length := by omega
    rw [d1, Bool.false_or]
    clear d1
    have hb : ∀ O, Below w.heap.size w (w.alloc O) := fun O => (Below.refl _ _).alloc (Nat.le_refl _) _
    have HB := Lib.hid hb
    clear hb
    go_enter Try.func88, Try.ntmps88
    go_wp2_with fail
    refine (HCt.out _ (HB.out _)).mono ?_
    rintro e w1 ⟨rfl, hb1⟩
    go_wp2_with fail
    go_ret
    exact ⟨rfl, (HB.out _).trans (hb1.mono (HB.out _).size)⟩

set_option maxRecDepth 100000 in
set_option maxHeartbeats 1000000 in
theorem jobsValid_any (s : Sh) (w : World) (hI : JobsS w s.aJ s.J) (o0 : 0 ≤ s.O) (o1 : s.O < s.C) (o2 : s.C ≤ 1440) (m0 : 1 ≤ s.M) (m1 : s.M ≤ 6) :
    Calls Try.prog 70 #[.agg #[.int .i64 s.O, .int .i64 s.C, .slice s.aH s.H.length s.cH, .int .i64 s.M, .slice s.aS s.S.length s.cS, .slice s.aJ s.J.length s.cJ]] w fun e w' => e = .returned (.bool (jobsB s)) ∧ Below w.heap.size w w' := by
  obtain ⟨blk, off, ad, cp, hA⟩ := hI.at
  have hlen := hA.1
  have hV : s.J.length ≤ 12 → jobsB s = !(anyK (fun i => jobW s.O s.C s.M (gj s.J i)) s.J.length) := fun h1 => by
    cases h : anyK (fun i => jobW s.O s.C s.M (gj s.J i)) s.J.length with
    | false => exact jobsB_t ⟨h1, fun i hi => jobW_iff.1 ((anyK_iff _).1 h i hi)⟩
    | true =>
      refine jobsB_f fun g => ?_
      rw [(anyK_iff _).2 fun j hj => jobW_iff.2 (g.2 j hj)] at h
      cases h
  have hB := ShBox.start w s 25
  by_cases h12 : s.J.length ≤ 12
  · have n12 : ¬ (12 : Int) < s.J.length := by omega
    have HR := Lib.hid (hV h12)
    have HCt : Hid (∀ b b2 W, Below w.heap.size w W → ShAt W b s → W.cell? ⟨b2, 0, none⟩ = some (.func (.func 86) #[] #[.pointer (some ⟨b, 0, none⟩)]) → Calls Try.prog 87 #[.slice s.aJ s.J.length s.cJ, .func (.func 88) #[] #[.pointer (some ⟨b2, 0, none⟩)]] W fun e w' => e = .returned (.bool (anyK (fun i => jobW s.O s.C s.M (gj s.J i)) s.J.length)) ∧ Below W.heap.size W w') :=
      Lib.hid fun b b2 W hW hS hf => containsJob_any s.aJ s.J blk off ad cp s.cJ #[.pointer (some ⟨b2, 0, none⟩)] _ W (hA.below hW) (fun j W' hj hW' => jobs2_any s _ _ _ b b2 W' o0 o1 o2 m0 m1 ((hA.below (hW.trans (hW'.mono hW.size))).2.2 j hj).2.1 (hS.on hW') (cell_below hf hW'))
    clear hV h12 hA hI
    generalize anyK (fun i => jobW s.O s.C s.M (gj s.J i)) s.J.length = K at *
    generalize jobsB s = R at *
    go_enter Try.func70, Try.ntmps70
    go_wp2_with fail
    obtain ⟨wC, hwC⟩ : ∃ wC, (w.alloc (.cells #[.int .i64 s.O, .int .i64 s.C, .slice s.aH s.H.length s.cH, .int .i64 s.M, .slice s.aS s.S.length s.cS, .slice s.aJ s.J.length s.cJ] 25)).alloc (.cells #[.func (.func 86) #[] #[.pointer (some ⟨w.heap.size, 0, none⟩)]] 108) = wC := ⟨_, rfl⟩
    have hC : ShBox w wC s := by rw [← hwC]; exact hB.on ((Below.refl _ _).alloc (Nat.le_refl _) _)
    have hf : wC.cell? ⟨w.heap.size + 1, 0, none⟩ = some (.func (.func 86) #[] #[.pointer (some ⟨w.heap.size, 0, none⟩)]) := by rw [← hwC]; simp [go_sem]
    rw [hwC]
    refine (HCt.out w.heap.size (w.heap.size + 1) _ hC.1 hC.2 hf).mono ?_
    rintro e w1 ⟨rfl, hb1⟩
    go_wp2_with fail
    all_goals
      go_ret
      rw [HR.out]
      exact ⟨by first | rfl | simp_all, hC.1.trans (hb1.mono hC.1.size)⟩
  · have n12 : (12 : Int) < s.J.length := by omega
    have HR := Lib.hid (jobsB_f (s := s) fun g => h12 g.1)
    clear hV h12 hA hI
    generalize jobsB s = R at *
    go_enter Try.func70, Try.ntmps70
    go_wp2_with fail
    go_ret
    rw [HR.out]
    exact ⟨rfl, hB.1⟩

theorem shB_eq {s : Sh} : shB s = (decide (0 ≤ s.O) && (decide (s.O < s.C) && (decide (s.C ≤ 1440) && (holB s.H && (machB s && jobsB s))))) := by
  rw [Bool.eq_iff_iff, shB_iff]
  simp only [Bool.and_eq_true, decide_eq_true_iff, holB_iff, machB_iff, jobsB_iff]
  unfold ShOk MachOk JobsOk
  constructor
  · rintro ⟨⟨h1, h2, h3⟩, h4, h5, h6⟩; exact ⟨h1, h2, h3, h4, h5, h6⟩
  · rintro ⟨h1, h2, h3, h4, h5, h6⟩; exact ⟨⟨h1, h2, h3⟩, h4, h5, h6⟩

set_option maxRecDepth 100000 in
set_option maxHeartbeats 1000000 in
theorem Valid_sh (s : Sh) (w : World) (hI : ShS w s) :
    Calls Try.prog 35 #[.agg #[.int .i64 s.O, .int .i64 s.C, .slice s.aH s.H.length s.cH, .int .i64 s.M, .slice s.aS s.S.length s.cS, .slice s.aJ s.J.length s.cJ]] w fun e w' => e = .returned (.bool (shB s)) ∧ Below w.heap.size w w' := by
  have HH := Lib.hid (fun W (hW : Below w.heap.size w W) => holValid_any s.aH s.H s.cH W (hI.1.below hW))
  have HM := Lib.hid (fun W (hW : Below w.heap.size w W) => machValid_any s W (hI.2.1.below hW))
  have HJ := Lib.hid (fun W (hW : Below w.heap.size w W) => jobsValid_any s W (hI.2.2.below hW))
  have hB := ShBox.start w s 25
  have HE := Lib.hid (shB_eq (s := s))
  have HMt : Hid (machB s = true → 1 ≤ s.M ∧ s.M ≤ 6) := Lib.hid fun h => (machB_iff.1 h).1
  generalize shB s = R at *
  clear hI
  by_cases hd : 0 ≤ s.O ∧ s.O < s.C ∧ s.C ≤ 1440
  · obtain ⟨o0, o1, o2⟩ := hd
    have HE : Hid (R = (holB s.H && (machB s && jobsB s))) := Lib.hid (by rw [HE.out]; simp [o0, o1, o2])
    cases hh : holB s.H with
    | false =>
      have HR : Hid (R = false) := Lib.hid (by rw [HE.out, hh]; rfl)
      rw [hh] at HH
      clear HE HM HJ HMt hh
      go_enter Try.func35, Try.ntmps35
      go_wp2_with fail
      obtain ⟨wB, hwB⟩ : ∃ wB, w.alloc (.cells #[.int .i64 s.O, .int .i64 s.C, .slice s.aH s.H.length s.cH, .int .i64 s.M, .slice s.aS s.S.length s.cS, .slice s.aJ s.J.length s.cJ] 25) = wB := ⟨_, rfl⟩
      rw [hwB] at hB ⊢
      clear hwB
      refine (HH.out _ hB.1).mono ?_
      rintro e w1 ⟨rfl, hb1⟩
      go_wp2_with fail
      go_ret
      rw [HR.out]
      exact ⟨rfl, hB.1.trans (hb1.mono hB.1.size)⟩
    | true =>
      rw [hh] at HH
      cases hm : machB s with
      | false =>
        have HR : Hid (R = false) := Lib.hid (by rw [HE.out, hm]; simp)
        rw [hm] at HM
        clear HE HJ HMt hh hm
        go_enter Try.func35, Try.ntmps35
        go_wp2_with fail
        obtain ⟨wB, hwB⟩ : ∃ wB, w.alloc (.cells #[.int .i64 s.O, .int .i64 s.C, .slice s.aH s.H.length s.cH, .int .i64 s.M, .slice s.aS s.S.length s.cS, .slice s.aJ s.J.length s.cJ] 25) = wB := ⟨_, rfl⟩
        rw [hwB] at hB ⊢
        clear hwB
        refine (HH.out _ hB.1).mono ?_
        rintro e w1 ⟨rfl, hb1⟩
        have HB1 := Lib.hid (hB.on hb1)
        obtain ⟨hb, p0, p1, p2, p3, p4, p5⟩ := hB.on hb1
        clear hb1 hB
        go_wp2_with fail
        refine (HM.out _ hb).mono ?_
        rintro e w2 ⟨rfl, hb2⟩
        go_wp2_with fail
        go_ret
        rw [HR.out]
        exact ⟨rfl, hb.trans (hb2.mono hb.size)⟩
      | true =>
        have HR : Hid (R = jobsB s) := Lib.hid (by rw [HE.out, hh, hm]; simp)
        rw [hm] at HM
        obtain ⟨m0, m1⟩ := HMt.out hm
        have HJ := Lib.hid (fun W hW => HJ.out W hW o0 o1 o2 m0 m1)
        generalize jobsB s = j at *
        clear HE HMt hh hm
        go_enter Try.func35, Try.ntmps35
        go_wp2_with fail
        obtain ⟨wB, hwB⟩ : ∃ wB, w.alloc (.cells #[.int .i64 s.O, .int .i64 s.C, .slice s.aH s.H.length s.cH, .int .i64 s.M, .slice s.aS s.S.length s.cS, .slice s.aJ s.J.length s.cJ] 25) = wB := ⟨_, rfl⟩
        rw [hwB] at hB ⊢
        clear hwB
        refine (HH.out _ hB.1).mono ?_
        rintro e w1 ⟨rfl, hb1⟩
        have HB1 := Lib.hid (hB.on hb1)
        obtain ⟨hb, p0, p1, p2, p3, p4, p5⟩ := hB.on hb1
        clear hb1 hB
        go_wp2_with fail
        refine (HM.out _ hb).mono ?_
        rintro e w2 ⟨rfl, hb2⟩
        have HB2 := Lib.hid (HB1.out.on hb2)
        obtain ⟨hb, p0, p1, p2, p3, p4, p5⟩ := HB1.out.on hb2
        clear hb2 HB1
        go_wp2_with fail
        refine (HJ.out _ hb).mono ?_
        rintro e w3 ⟨rfl, hb3⟩
        go_wp2_with fail
        go_ret
        rw [HR.out]
        exact ⟨rfl, hb.trans (hb3.mono hb.size)⟩
  · have HR : Hid (R = false) := Lib.hid (by
      rw [HE.out]
      by_cases g1 : 0 ≤ s.O
      · by_cases g2 : s.O < s.C
        · have g3 : ¬ s.C ≤ 1440 := fun g => hd ⟨g1, g2, g⟩
          simp [g3]
        · simp [g2]
      · simp [g1])
    clear HE HH HM HJ HMt
    by_cases g1 : 0 ≤ s.O
    · by_cases g2 : s.O < s.C
      · have g3 : ¬ s.C ≤ 1440 := fun g => hd ⟨g1, g2, g⟩
        clear hd
        go_enter Try.func35, Try.ntmps35
        go_wp2_with fail
        go_ret
        rw [HR.out]
        exact ⟨rfl, hB.1⟩
      · clear hd
        go_enter Try.func35, Try.ntmps35
        go_wp2_with fail
        go_ret
        rw [HR.out]
        exact ⟨rfl, hB.1⟩
    · clear hd
      go_enter Try.func35, Try.ntmps35
      go_wp2_with fail
      go_ret
      rw [HR.out]
      exact ⟨rfl, hB.1⟩
end Go.Proofs.Ytgphkfonjfdifaa

namespace Go.Proofs.Ytgphkfonjfdifaa
set_option linter.unusedVariables false
set_option linter.unusedSimpArgs false
open Go.RowKit

set_option maxRecDepth 100000 in
set_option maxHeartbeats 2000000 in
theorem after_sh (s : Sh) (t : Int) (m : Nat) (w : World) (hI : IntsS w s.aH s.H) (hH : HolOk s.H) (o0 : 0 ≤ s.O) (o1 : s.O < s.C) (o2 : s.C ≤ 1440) (t0 : 0 ≤ t) (t1 : t ≤ 1000000000) (m1 : m ≤ 1000000) :
    Calls Try.prog 67 #[.agg #[.int .i64 s.O, .int .i64 s.C, .slice s.aH s.H.length s.cH, .int .i64 s.M, .slice s.aS s.S.length s.cS, .slice s.aJ s.J.length s.cJ], .int .i64 t, .int .i64 m] w fun e w' => e = .returned (.int .i64 (aftV s.O s.C s.H t m)) ∧ Below w.heap.size w w' := by
  have h4 := hH.1
  have HO := Lib.hid (fun W (hW : Below w.heap.size w W) => open_sh s t W (hI.below hW) hH o0 o1 o2 t0 (by omega))
  have HF := Lib.hid (fun (R : Int) (n : Nat) (b b1 b2 : Nat) W (hW : Below w.heap.size w W) n1 => after1_sh s t R n b b1 b2 W (hI.below hW) hH o0 o1 o2 t0 t1 n1)
  obtain ⟨k, hk, hk2⟩ := aft_exists (O := s.O) (C := s.C) hH.asc o0 o1 o2 t m
  have hv := aftV_eq hk
  have hob := opnB_bd (O := s.O) (C := s.C) hH.asc hH.pos o0 o1 o2 t0
  have HU : Hid (∀ n : Nat, n ≤ 1440 * (m + s.H.length) → (∀ j, j < n → decide (opnB s.O s.C s.H t + m ≤ opnB s.O s.C s.H (t + j)) = false) → (n < 1440 * (m + s.H.length) → decide (opnB s.O s.C s.H t + m ≤ opnB s.O s.C s.H (t + n)) = true) → n = k) := Lib.hid fun n h1 h2 h3 => by
    have := (aft_of hH.asc o0 o1 o2 h1 (fun j hj => by have := h2 j hj; rw [decide_eq_false_iff_not] at this; omega) (fun h => by have := h3 h; rwa [decide_eq_true_iff] at this)).unique hk
    omega
  have HMo : Hid (∀ i j : Nat, i ≤ j → decide (opnB s.O s.C s.H t + m ≤ opnB s.O s.C s.H (t + i)) = true → decide (opnB s.O s.C s.H t + m ≤ opnB s.O s.C s.H (t + j)) = true) := Lib.hid fun i j hij h => by
    rw [decide_eq_true_iff] at h ⊢
    have := opnB_mono (O := s.O) (C := s.C) (l := s.H) hH.asc o0 o1 o2 (show t + (i : Int) ≤ t + j by omega)
    omega
  rw [hv]
  have hB := ShBox.start w s 25
  have HSS := Lib.hid (fun (lb : Array Value) W hp => sortSearch_any (1440 * (m + s.H.length)) k lb (fun j => decide (opnB s.O s.C s.H t + m ≤ opnB s.O s.C s.H (t + j))) W (by omega) HMo.out hp HU.out)
  clear HU HMo hv hk
  go_enter Try.func67, Try.ntmps67
  go_wp2_with fail
  obtain ⟨wB, hwB⟩ : ∃ wB, (w.alloc (.cells #[.int .i64 s.O, .int .i64 s.C, .slice s.aH s.H.length s.cH, .int .i64 s.M, .slice s.aS s.S.length s.cS, .slice s.aJ s.J.length s.cJ] 25)).alloc (.cells #[.int .i64 t] 3) = wB := ⟨_, rfl⟩
  have hB2 : ShBox w wB s := by rw [← hwB]; exact hB.on ((Below.refl _ _).alloc (Nat.le_refl _) _)
  have ct : wB.cell? ⟨w.heap.size + 1, 0, none⟩ = some (.int .i64 t) := by rw [← hwB]; simp [go_sem]
  rw [hwB]
  clear hwB hB
  refine (HO.out _ hB2.1).mono ?_
  rintro e w1 ⟨rfl, hb1⟩
  have ct := cell_below ct hb1
  have hB3 := hB2.on hb1
  clear hB2 hb1 HO
  have HB3 := Lib.hid hB3
  obtain ⟨hb, p0, p1, p2, p3, p4, p5⟩ := hB3
  generalize opnB s.O s.C s.H t = v at *
  obtain ⟨v0, v1⟩ := hob
  have z1 := block_lt ct
  have q1 : ∀ o O, (w1.alloc O).cell? ⟨w.heap.size, o, none⟩ = w1.cell? ⟨w.heap.size, o, none⟩ := fun o O => ((Below.refl w1.heap.size w1).alloc (Nat.le_refl _) O).cell (p := ⟨w.heap.size, o, none⟩) (by simp; omega)
  have q2 : ∀ o O, (w1.alloc O).cell? ⟨w.heap.size + 1, o, none⟩ = w1.cell? ⟨w.heap.size + 1, o, none⟩ := fun o O => ((Below.refl w1.heap.size w1).alloc (Nat.le_refl _) O).cell (p := ⟨w.heap.size + 1, o, none⟩) (by simp; omega)
  go_wp2_with fail
  obtain ⟨wC, hwC⟩ : ∃ wC, w1.alloc (.cells #[.int .i64 (v + m)] 3) = wC := ⟨_, rfl⟩
  have hbC : Below w1.heap.size w1 wC := by rw [← hwC]; exact (Below.refl _ _).alloc (Nat.le_refl _) _
  have c2 : wC.cell? ⟨w1.heap.size, 0, none⟩ = some (.int .i64 (v + m)) := by rw [← hwC]; simp [go_sem]
  have hBC := HB3.out.on hbC
  have ct := cell_below ct hbC
  have HP2 : Hid (∀ X, Below wC.heap.size wC X → ∀ j W, j < 1440 * (m + s.H.length) → Below X.heap.size X W → Calls Try.prog 84 (#[.int .i64 j] ++ #[.pointer (some ⟨w.heap.size, 0, none⟩), .pointer (some ⟨w.heap.size + 1, 0, none⟩), .pointer (some ⟨w1.heap.size, 0, none⟩)]) W fun e w' => e = .returned (.bool (decide (v + m ≤ opnB s.O s.C s.H (t + j)))) ∧ Below W.heap.size W w') := Lib.hid fun X hX j W hj hW =>
    have hXW := hX.trans (hW.mono hX.size)
    HF.out (v + m) j w.heap.size (w.heap.size + 1) w1.heap.size W ((hBC.on hXW).1) (by omega) (hBC.on hXW).2 (cell_below ct hXW) (cell_below c2 hXW)
  have hN : ((1440 * (m + s.H.length) : Nat) : Int) = ((m : Int) + s.H.length) * 1440 := by omega
  rw [hN] at HSS
  have ws : IntKind.i64.wrap (t + k) = t + k := IntWalk.i64_in _ (by omega)
  have hB : Below w.heap.size w wC := hBC.1
  have hC := Below.refl wC.heap.size wC
  have z2 := block_lt ct
  rw [hwC]
  clear hwC hN hb p0 p1 p2 p3 p4 p5 hbC HB3 HF z1 q1 q2 c2
  go_region_held3 (fun w' => w'.cell? ⟨w.heap.size + 1, 0, none⟩ = some (.int .i64 t)) (go_keep)
    ((go_at_call 83
      refine (HSS.out _ _ (HP2.out _ (by first | exact hC.drew | exact hC | exact hC.drew.drew | exact below_drewN hC _ | exact below_drewN hC.drew _))).mono ?_
      rintro E w9 ⟨rfl, hb9⟩
      have ct := (hb9.cell (p := ⟨w.heap.size + 1, 0, none⟩) z2).trans ct
      have hB : Below w.heap.size w w9 := by first | exact (hB.drew).trans (hb9.mono hB.size) | exact hB.trans (hb9.mono hB.size)))
  all_goals
    go_wp2_with fail
    go_ret
    exact ⟨rfl, hB⟩
end Go.Proofs.Ytgphkfonjfdifaa
