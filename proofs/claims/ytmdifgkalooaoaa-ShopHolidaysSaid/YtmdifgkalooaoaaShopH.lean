/-
  The walks of slices.IndexFunc and ContainsFunc over ints, jobs and steps. By an AI agent.
-/
import Derived.Test.YtmdifgkalooaoaaShopC
import Derived.Test.YtmdifgkalooaoaaAnyK
namespace Go.Proofs.Ytmdifgkalooaoaa
set_option linter.unusedVariables false
set_option linter.unusedSimpArgs false
open Go.RowKit

set_option maxRecDepth 100000 in
set_option maxHeartbeats 1000000 in
theorem idxInt_any (aa : Option Addr) (l : List Int) (ca : Nat) (lb : Array Value) (p : Nat → Bool) (w : World) (hI : IntsS w aa l)
    (hp : ∀ j W, j < l.length → Below w.heap.size w W → Calls Try.prog 87 (#[.int .i64 (gi l j)] ++ lb) W fun e w' => e = .returned (.bool (p j)) ∧ Below W.heap.size W w') :
    Calls Try.prog 104 #[.slice aa l.length ca, .func (.func 87) #[] lb] w fun e w' => e = .returned (.int .i64 (idxK p l.length)) ∧ Below w.heap.size w w' := by
  obtain ⟨hlen, hbd, blk, off, hadr, hc⟩ := hI
  have HC := Lib.hid hc
  have HL : Hid (0 < l.length → aa = some ⟨blk, off, none⟩) := Lib.hid fun h => hadr (fun e => by rw [e] at h; simp at h)
  clear hc hadr hbd
  have HP := Lib.hid hp
  have HH : Hid (∀ k, k < l.length → p k = true → (∀ j, j < k → p j = false) → idxK p l.length = k) := Lib.hid fun k hk h hb => idxK_hit h hb _ hk
  have HM : Hid ((∀ j, j < l.length → p j = false) → idxK p l.length = -1) := Lib.hid fun h => idxK_miss _ h
  generalize idxK p l.length = R at *
  clear hp
  go_enter Try.func104, Try.ntmps104
  go_wp2_with fail
  go_loopw [8] (fun i wr => ∃ k : Nat, k ≤ l.length ∧ i = .int .i64 k ∧ Below w.heap.size w wr ∧ Hid (∀ j, j < k → p j = false)) (fun i _ => l.length - (intOf i).toNat)
  case atStart => exact ⟨0, Nat.zero_le _, rfl, Below.refl _ _, Lib.hid fun j hj => absurd hj (Nat.not_lt_zero _)⟩
  case round =>
    obtain ⟨k, hk, rfl, hb, HA⟩ := hrel
    by_cases hlt : k < l.length
    · obtain rfl := HL.out (by omega)
      have c0 := cell_below (HC.out k hlt) hb
      have HK := Lib.hid (fun W => HP.out k W hlt)
      have HHk := Lib.hid (HH.out k hlt)
      have HN : Hid (p k = false → ∀ j, j < k + 1 → p j = false) := Lib.hid fun h j hj => by
        by_cases e : j = k
        · subst e; exact h
        · exact HA.out j (by omega)
      clear HP HC HM HL HH
      generalize gi l k = x at *
      cases hpk : p k with
      | true =>
        have HR := Lib.hid (HHk.out hpk HA.out)
        rw [hpk] at HK
        clear hpk HHk HN
        go_wp2_with fail
        refine (HK.out _ hb).mono ?_
        rintro e w1 ⟨rfl, hb1⟩
        go_wp2_with fail
        go_ret
        rw [HR.out]
        exact ⟨rfl, hb.trans (hb1.mono hb.size)⟩
      | false =>
        have HR := Lib.hid (HN.out hpk)
        rw [hpk] at HK
        clear hpk HHk HN
        go_wp2_with fail
        refine (HK.out _ hb).mono ?_
        rintro e w1 ⟨rfl, hb1⟩
        go_wp2_with fail
        go_roundw
        case rel => exact ⟨k + 1, by omega, by go_num, hb.trans (hb1.mono hb.size), HR⟩
        case measure => simp [intOf]; omega
    · obtain rfl : k = l.length := by omega
      have HR := Lib.hid (HM.out HA.out)
      clear HC HL HP HM HH hlt
      go_wp2_with fail
      go_ret
      rw [HR.out]
      exact ⟨rfl, hb⟩

set_option maxRecDepth 100000 in
theorem containsInt_any (aa : Option Addr) (l : List Int) (ca : Nat) (lb : Array Value) (p : Nat → Bool) (w : World) (hI : IntsS w aa l)
    (hp : ∀ j W, j < l.length → Below w.heap.size w W → Calls Try.prog 87 (#[.int .i64 (gi l j)] ++ lb) W fun e w' => e = .returned (.bool (p j)) ∧ Below W.heap.size W w') :
    Calls Try.prog 86 #[.slice aa l.length ca, .func (.func 87) #[] lb] w fun e w' => e = .returned (.bool (anyK p l.length)) ∧ Below w.heap.size w w' := by
  have H := Lib.hid (idxInt_any aa l ca lb p w hI hp)
  have hq := Lib.hid (idxK_any p l.length)
  clear hp hI
  generalize idxK p l.length = R at *
  generalize anyK p l.length = B at *
  have hq := hq.out
  subst hq
  go_enter Try.func86, Try.ntmps86
  go_wp2_with fail
  refine H.out.mono ?_
  rintro e w1 ⟨rfl, hb1⟩
  go_wp2_with fail
  all_goals
    go_ret
    exact ⟨by simp_all, hb1⟩

set_option maxRecDepth 100000 in
set_option maxHeartbeats 1000000 in
theorem idxStp_any (aa : Option Addr) (l : List Stp) (ca : Nat) (lb : Array Value) (p : Nat → Bool) (w : World) (hI : StepsS w aa l)
    (hp : ∀ j W, j < l.length → Below w.heap.size w W → Calls Try.prog 88 (#[.agg #[.int .i64 (gs l j).1, .int .i64 (gs l j).2.1, .int .i64 (gs l j).2.2.1, .int .i64 (gs l j).2.2.2]] ++ lb) W fun e w' => e = .returned (.bool (p j)) ∧ Below W.heap.size W w') :
    Calls Try.prog 106 #[.slice aa l.length ca, .func (.func 88) #[] lb] w fun e w' => e = .returned (.int .i64 (idxK p l.length)) ∧ Below w.heap.size w w' := by
  obtain ⟨hlen, hbd, blk, off, hadr, hc⟩ := hI
  have HC := Lib.hid hc
  have HL : Hid (0 < l.length → aa = some ⟨blk, off, none⟩) := Lib.hid fun h => hadr (fun e => by rw [e] at h; simp at h)
  clear hc hadr hbd
  have HP := Lib.hid hp
  have HH : Hid (∀ k, k < l.length → p k = true → (∀ j, j < k → p j = false) → idxK p l.length = k) := Lib.hid fun k hk h hb => idxK_hit h hb _ hk
  have HM : Hid ((∀ j, j < l.length → p j = false) → idxK p l.length = -1) := Lib.hid fun h => idxK_miss _ h
  generalize idxK p l.length = R at *
  clear hp
  go_enter Try.func106, Try.ntmps106
  go_wp2_with fail
  go_loopw [8] (fun i wr => ∃ k : Nat, k ≤ l.length ∧ i = .int .i64 k ∧ Below w.heap.size w wr ∧ Hid (∀ j, j < k → p j = false)) (fun i _ => l.length - (intOf i).toNat)
  case atStart => exact ⟨0, Nat.zero_le _, rfl, Below.refl _ _, Lib.hid fun j hj => absurd hj (Nat.not_lt_zero _)⟩
  case round =>
    obtain ⟨k, hk, rfl, hb, HA⟩ := hrel
    by_cases hlt : k < l.length
    · obtain rfl := HL.out (by omega)
      obtain ⟨c0, c1, c2, c3⟩ := HC.out k hlt
      have c0 := cell_below c0 hb
      have c1 := cell_below c1 hb
      have c2 := cell_below c2 hb
      have c3 := cell_below c3 hb
      have HK := Lib.hid (fun W => HP.out k W hlt)
      have HHk := Lib.hid (HH.out k hlt)
      have HN : Hid (p k = false → ∀ j, j < k + 1 → p j = false) := Lib.hid fun h j hj => by
        by_cases e : j = k
        · subst e; exact h
        · exact HA.out j (by omega)
      clear HP HC HM HL HH
      generalize (gs l k).1 = x at *
      generalize (gs l k).2.1 = x1 at *
      generalize (gs l k).2.2.1 = x2 at *
      generalize (gs l k).2.2.2 = x3 at *
      cases hpk : p k with
      | true =>
        have HR := Lib.hid (HHk.out hpk HA.out)
        rw [hpk] at HK
        clear hpk HHk HN
        go_wp2_with fail
        refine (HK.out _ hb).mono ?_
        rintro e w1 ⟨rfl, hb1⟩
        go_wp2_with fail
        go_ret
        rw [HR.out]
        exact ⟨rfl, hb.trans (hb1.mono hb.size)⟩
      | false =>
        have HR := Lib.hid (HN.out hpk)
        rw [hpk] at HK
        clear hpk HHk HN
        go_wp2_with fail
        refine (HK.out _ hb).mono ?_
        rintro e w1 ⟨rfl, hb1⟩
        go_wp2_with fail
        go_roundw
        case rel => exact ⟨k + 1, by omega, by go_num, hb.trans (hb1.mono hb.size), HR⟩
        case measure => simp [intOf]; omega
    · obtain rfl : k = l.length := by omega
      have HR := Lib.hid (HM.out HA.out)
      clear HC HL HP HM HH hlt
      go_wp2_with fail
      go_ret
      rw [HR.out]
      exact ⟨rfl, hb⟩

set_option maxRecDepth 100000 in
theorem containsStp_any (aa : Option Addr) (l : List Stp) (ca : Nat) (lb : Array Value) (p : Nat → Bool) (w : World) (hI : StepsS w aa l)
    (hp : ∀ j W, j < l.length → Below w.heap.size w W → Calls Try.prog 88 (#[.agg #[.int .i64 (gs l j).1, .int .i64 (gs l j).2.1, .int .i64 (gs l j).2.2.1, .int .i64 (gs l j).2.2.2]] ++ lb) W fun e w' => e = .returned (.bool (p j)) ∧ Below W.heap.size W w') :
    Calls Try.prog 91 #[.slice aa l.length ca, .func (.func 88) #[] lb] w fun e w' => e = .returned (.bool (anyK p l.length)) ∧ Below w.heap.size w w' := by
  have H := Lib.hid (idxStp_any aa l ca lb p w hI hp)
  have hq := Lib.hid (idxK_any p l.length)
  clear hp hI
  generalize idxK p l.length = R at *
  generalize anyK p l.length = B at *
  have hq := hq.out
  subst hq
  go_enter Try.func91, Try.ntmps91
  go_wp2_with fail
  refine H.out.mono ?_
  rintro e w1 ⟨rfl, hb1⟩
  go_wp2_with fail
  all_goals
    go_ret
    exact ⟨by simp_all, hb1⟩

/-- A slice of jobs, with the places of their steps. -/
def JobsAt (w : World) (a : Option Addr) (r : List (List Stp)) (blk off : Nat) (ad : Nat → Option Addr) (cp : Nat → Nat) : Prop :=
  r.length ≤ 9223372036854775807 ∧ (r ≠ [] → a = some ⟨blk, off, none⟩) ∧ ∀ i, i < r.length → w.cell? ⟨blk, off + i, none⟩ = some (.slice (ad i) (gj r i).length (cp i)) ∧ StepsS w (ad i) (gj r i) ∧ (gj r i).length ≤ cp i
theorem JobsAt.below {w w' : World} {a : Option Addr} {r : List (List Stp)} {blk off : Nat} {ad : Nat → Option Addr} {cp : Nat → Nat} (h : JobsAt w a r blk off ad cp) (hb : Below w.heap.size w w') : JobsAt w' a r blk off ad cp := by
  obtain ⟨h0, h2, h3⟩ := h
  exact ⟨h0, h2, fun i hi => by
    have hx := h3 i hi
    rw [hb.cell (p := ⟨blk, off + i, none⟩) (block_lt hx.1)]; exact ⟨hx.1, hx.2.1.below hb, hx.2.2⟩⟩
theorem JobsS.at {w : World} {a : Option Addr} {r : List (List Stp)} (h : JobsS w a r) : ∃ blk off ad cp, JobsAt w a r blk off ad cp := by
  obtain ⟨h0, blk, off, ad, cp, h2, h3⟩ := h
  exact ⟨blk, off, ad, cp, h0, h2, h3⟩

set_option maxRecDepth 100000 in
set_option maxHeartbeats 1000000 in
theorem idxJob_any (aa : Option Addr) (l : List (List Stp)) (blk off : Nat) (ad : Nat → Option Addr) (cp : Nat → Nat) (ca : Nat) (lb : Array Value) (p : Nat → Bool) (w : World) (hI : JobsAt w aa l blk off ad cp)
    (hp : ∀ j W, j < l.length → Below w.heap.size w W → Calls Try.prog 90 (#[.agg #[.slice (ad j) (gj l j).length (cp j)]] ++ lb) W fun e w' => e = .returned (.bool (p j)) ∧ Below W.heap.size W w') :
    Calls Try.prog 105 #[.slice aa l.length ca, .func (.func 90) #[] lb] w fun e w' => e = .returned (.int .i64 (idxK p l.length)) ∧ Below w.heap.size w w' := by
  obtain ⟨hlen, hadr, hc⟩ := hI
  have HC := Lib.hid hc
  have HL : Hid (0 < l.length → aa = some ⟨blk, off, none⟩) := Lib.hid fun h => hadr (fun e => by rw [e] at h; simp at h)
  clear hc hadr
  have HP := Lib.hid hp
  have HH : Hid (∀ k, k < l.length → p k = true → (∀ j, j < k → p j = false) → idxK p l.length = k) := Lib.hid fun k hk h hb => idxK_hit h hb _ hk
  have HM : Hid ((∀ j, j < l.length → p j = false) → idxK p l.length = -1) := Lib.hid fun h => idxK_miss _ h
  generalize idxK p l.length = R at *
  clear hp
  go_enter Try.func105, Try.ntmps105
  go_wp2_with fail
  go_loopw [8] (fun i wr => ∃ k : Nat, k ≤ l.length ∧ i = .int .i64 k ∧ Below w.heap.size w wr ∧ Hid (∀ j, j < k → p j = false)) (fun i _ => l.length - (intOf i).toNat)
  case atStart => exact ⟨0, Nat.zero_le _, rfl, Below.refl _ _, Lib.hid fun j hj => absurd hj (Nat.not_lt_zero _)⟩
  case round =>
    obtain ⟨k, hk, rfl, hb, HA⟩ := hrel
    by_cases hlt : k < l.length
    · obtain rfl := HL.out (by omega)
      have c0 := cell_below (HC.out k hlt).1 hb
      have HK := Lib.hid (fun W => HP.out k W hlt)
      have HHk := Lib.hid (HH.out k hlt)
      have HN : Hid (p k = false → ∀ j, j < k + 1 → p j = false) := Lib.hid fun h j hj => by
        by_cases e : j = k
        · subst e; exact h
        · exact HA.out j (by omega)
      clear HP HC HM HL HH
      generalize ad k = x at *
      generalize (gj l k).length = x1 at *
      generalize cp k = x2 at *
      cases hpk : p k with
      | true =>
        have HR := Lib.hid (HHk.out hpk HA.out)
        rw [hpk] at HK
        clear hpk HHk HN
        go_wp2_with fail
        refine (HK.out _ hb).mono ?_
        rintro e w1 ⟨rfl, hb1⟩
        go_wp2_with fail
        go_ret
        rw [HR.out]
        exact ⟨rfl, hb.trans (hb1.mono hb.size)⟩
      | false =>
        have HR := Lib.hid (HN.out hpk)
        rw [hpk] at HK
        clear hpk HHk HN
        go_wp2_with fail
        refine (HK.out _ hb).mono ?_
        rintro e w1 ⟨rfl, hb1⟩
        go_wp2_with fail
        go_roundw
        case rel => exact ⟨k + 1, by omega, by go_num, hb.trans (hb1.mono hb.size), HR⟩
        case measure => simp [intOf]; omega
    · obtain rfl : k = l.length := by omega
      have HR := Lib.hid (HM.out HA.out)
      clear HC HL HP HM HH hlt
      go_wp2_with fail
      go_ret
      rw [HR.out]
      exact ⟨rfl, hb⟩

set_option maxRecDepth 100000 in
theorem containsJob_any (aa : Option Addr) (l : List (List Stp)) (blk off : Nat) (ad : Nat → Option Addr) (cp : Nat → Nat) (ca : Nat) (lb : Array Value) (p : Nat → Bool) (w : World) (hI : JobsAt w aa l blk off ad cp)
    (hp : ∀ j W, j < l.length → Below w.heap.size w W → Calls Try.prog 90 (#[.agg #[.slice (ad j) (gj l j).length (cp j)]] ++ lb) W fun e w' => e = .returned (.bool (p j)) ∧ Below W.heap.size W w') :
    Calls Try.prog 89 #[.slice aa l.length ca, .func (.func 90) #[] lb] w fun e w' => e = .returned (.bool (anyK p l.length)) ∧ Below w.heap.size w w' := by
  have H := Lib.hid (idxJob_any aa l blk off ad cp ca lb p w hI hp)
  have hq := Lib.hid (idxK_any p l.length)
  clear hp hI
  generalize idxK p l.length = R at *
  generalize anyK p l.length = B at *
  have hq := hq.out
  subst hq
  go_enter Try.func89, Try.ntmps89
  go_wp2_with fail
  refine H.out.mono ?_
  rintro e w1 ⟨rfl, hb1⟩
  go_wp2_with fail
  all_goals
    go_ret
    exact ⟨by simp_all, hb1⟩

end Go.Proofs.Ytmdifgkalooaoaa
