/-
  append of a list of stretches to a row of one's own; within of the laws. By an AI agent.
-/
import Derived.Test.YtdiabpcpcilclaaRoadX
import Derived.Deep.RegionHeld3
import Derived.BigQuiet
namespace Go.Proofs.Ytdiabpcpcilclaa
set_option linter.unusedVariables false
set_option linter.unusedSimpArgs false
open Go.RowKit

theorem app_spans {ops : Array Oper} {rest : List Oper} {o : Oper} {a : Act} {Q : Exit → Act → World → Prop} (w : World) (hgd : o.guard = none) (s x : Operand)
    (ho : o.op = .call { callee := .builtin .append, args := #[s, x], argTypes := #[30, 30] })
    (base : Nat) (b : Option Addr) (n c : Nat) (xs : List Value) (hs : a.eval s = .slice b n c) (hown : w.ownsRow base 26 2 (.slice b n c) n xs)
    (ax : Option Addr) (l : List Spn) (cx : Nat) (hx : a.eval x = .slice ax l.length cx) (hP : PairsS w ax l) (hlen : n + l.length ≤ 100000000) (hbase : base ≤ w.heap.size)
    (h : ∀ b' c' w', w'.ownsRow base 26 2 (.slice b' (n + l.length) c') (n + l.length) (xs ++ clS l) → Below base w w' → wpList Try.prog ops Q rest (a.put o.dst (.slice b' (n + l.length) c')) w') : wpList Try.prog ops Q (o :: rest) a w := by
  obtain ⟨n0, hi, hz0, hz1, hz2⟩ := info_parts spanInfo
  by_cases h0 : l.length = 0
  · have hl := List.eq_nil_of_length_eq_zero h0
    subst hl
    refine wpList_append_zero hgd s x 30 ho base 26 n0 2 Try.underlying30 hi (.slice b n c) n xs hs hown ax cx hx ?_
    have := h b c w (by rw [show clS [] = [] from rfl, List.append_nil]; exact hown) (Below.refl _ _)
    exact this
  · obtain ⟨-, -, blk, off, hadr, hcell⟩ := hP
    obtain rfl := hadr (by rintro rfl; exact h0 rfl)
    refine wpList_append_lies w hgd s x 30 ho base 26 n0 _ 2 16 Try.underlying30 hi hz0 hz1 hz2 rfl (by decide) (.slice b n c) n xs hs hown ⟨blk, off, none⟩ l.length cx (clS l) hx (by rw [clS_len]) (news_of_pairs hcell) (clS_one l) (by omega) (by unfold maxLen; omega) (by omega) hbase _ rfl ?_
    intro g cap w' h1 h2 _ _
    exact h _ _ _ h1 ((Below.refl _ _).grown h2 hbase (fun z hz => owns_block hown hz))
/-- Is a metre in one of some stretches? -/
def inB (l : List Spn) (c : Int) : Bool := anyK (fun j => decide ((gp l j).1 ≤ c) && decide (c < (gp l j).2)) l.length
theorem inB_iff (l : List Spn) (c : Int) : inB l c = true ↔ InL l c := by
  unfold inB
  constructor
  · intro h
    apply Classical.byContradiction
    intro hn
    rw [(anyK_iff _).2] at h
    · cases h
    · intro j hj
      rw [← Bool.not_eq_true, Bool.and_eq_true, decide_eq_true_eq, decide_eq_true_eq]
      exact fun g => hn ⟨_, gp_mem hj, g⟩
  · rintro ⟨p, hp, h1, h2⟩
    obtain ⟨j, hj, e⟩ := mem_gp hp
    exact anyK_true (j := j) (by rw [e]; simp [h1, h2]) _ hj
set_option maxRecDepth 100000 in
set_option maxHeartbeats 1000000 in
theorem withinL_any (a : Option Addr) (l : List Spn) (ca : Nat) (c : Int) (w : World) (hA : PairsS w a l) :
    Calls Try.prog 22 #[.slice a l.length ca, .int .i64 c] w fun e w' => e = .returned (.bool (inB l c)) ∧ w = w' := by
  obtain ⟨hlen, -, blk, off, hadr, hcell⟩ := hA
  have HC := Lib.hid hcell
  have HL : Hid (0 < l.length → a = some ⟨blk, off, none⟩) := Lib.hid fun h => hadr (pos_ne (n := 0) h)
  have HB : Hid (∀ k, k < l.length → (gp l k).1 ≤ c → c < (gp l k).2 → inB l c = true) := Lib.hid fun k hk h1 h2 => (inB_iff l c).2 ⟨_, gp_mem hk, h1, h2⟩
  have HE : Hid ((∀ j, j < l.length → ¬ ((gp l j).1 ≤ c ∧ c < (gp l j).2)) → inB l c = false) := Lib.hid fun h => by
    rw [← Bool.not_eq_true, inB_iff]
    rintro ⟨p, hp, h1⟩
    obtain ⟨j, hj, e⟩ := mem_gp hp
    exact h j hj (by rw [e]; exact h1)
  clear hcell hadr
  go_enter Try.func22, Try.ntmps22
  go_wp2_with fail
  go_loopw [5] (fun i wr => ∃ k : Nat, k ≤ l.length ∧ i = .int .i64 k ∧ Hid (∀ j, j < k → ¬ ((gp l j).1 ≤ c ∧ c < (gp l j).2)) ∧ w = wr) (fun i _ => l.length - (intOf i).toNat)
  case atStart => exact ⟨0, Nat.zero_le _, rfl, Lib.hid fun j hj => absurd hj (Nat.not_lt_zero _), rfl⟩
  case round =>
    obtain ⟨k, hk, rfl, HN, rfl⟩ := hrel
    by_cases hlt : k < l.length
    · obtain rfl := HL.out (by omega)
      obtain ⟨c0, c1⟩ := HC.out k hlt
      have hkl : (k : Int) < (l.length : Int) := by omega
      have hk0 : (0 : Int) ≤ (k : Int) := by omega
      have hmeas : l.length - (k + 1) < l.length - k := by omega
      have HS : Hid (¬ ((gp l k).1 ≤ c ∧ c < (gp l k).2) → ∀ j, j < k + 1 → ¬ ((gp l j).1 ≤ c ∧ c < (gp l j).2)) := Lib.hid fun h j hj => by
        by_cases e : j = k
        · subst e; exact h
        · exact HN.out j (by omega)
      have HB := Lib.hid (HB.out k hlt)
      obtain ⟨x, hx⟩ : ∃ x, (gp l k).1 = x := ⟨_, rfl⟩
      obtain ⟨y, hy⟩ : ∃ y, (gp l k).2 = y := ⟨_, rfl⟩
      rw [hx, hy] at HS HB
      rw [hx] at c0
      rw [hy] at c1
      clear hx hy HC HL HE HN
      by_cases h1 : x ≤ c
      · by_cases h2 : c < y
        · have hE := Lib.hid (HB.out h1 h2)
          clear HB HS
          go_wp2_with fail
          go_ret
          exact ⟨by rw [hE.out]; rfl, rfl⟩
        · have HSk := Lib.hid (HS.out (fun g => h2 g.2))
          clear HB HS
          go_wp2_with fail
          go_roundw
          case rel => exact ⟨k + 1, by omega, by go_num, HSk, by trivial⟩
          case measure => first | (simp [intOf]; exact hmeas) | simpa [intOf] using hmeas
      · have HSk := Lib.hid (HS.out (fun g => h1 g.1))
        clear HB HS
        go_wp2_with fail
        go_roundw
        case rel => exact ⟨k + 1, by omega, by go_num, HSk, by trivial⟩
        case measure => first | (simp [intOf]; exact hmeas) | simpa [intOf] using hmeas
    · obtain rfl : k = l.length := by omega
      have hE := Lib.hid (HE.out HN.out)
      clear HC HL HB HE HN
      go_wp2_with fail
      go_ret
      exact ⟨by rw [hE.out]; rfl, rfl⟩
end Go.Proofs.Ytdiabpcpcilclaa
