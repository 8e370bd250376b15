/-
  Plain mathematics: the sum of a canonical list counts its metres; totals add up. By an AI agent.
-/
import Derived.Test.YtdiabpcpcilclaaRoadTm
namespace Go.Proofs.Ytdiabpcpcilclaa
set_option linter.unusedVariables false
set_option linter.unusedSimpArgs false
open Classical in
/-- How many of the first n metres have a property. -/
noncomputable def cntP (P : Int → Prop) : Nat → Int
  | 0 => 0
  | n + 1 => cntP P n + if P n then 1 else 0
theorem cntP_add {P Q R : Int → Prop} : ∀ n : Nat, (∀ m : Int, 0 ≤ m → (P m ↔ Q m ∨ R m) ∧ ¬ (Q m ∧ R m)) → cntP P n = cntP Q n + cntP R n
  | 0, _ => rfl
  | n + 1, h => by
    have ih := cntP_add (P := P) (Q := Q) (R := R) n h
    obtain ⟨h1, h2⟩ := h n (by omega)
    rw [cntP, cntP, cntP, ih]
    by_cases q : Q n
    · have r : ¬ R n := fun r => h2 ⟨q, r⟩
      rw [if_pos (h1.2 (.inl q)), if_pos q, if_neg r]; omega
    · by_cases r : R n
      · rw [if_pos (h1.2 (.inr r)), if_neg q, if_pos r]; omega
      · have p : ¬ P n := fun p => by rcases h1.1 p with p | p; exact q p; exact r p
        rw [if_neg p, if_neg q, if_neg r]; omega
theorem cntP_congr {P Q : Int → Prop} (h : ∀ m : Int, P m ↔ Q m) : ∀ n : Nat, cntP P n = cntP Q n := fun n => by
  have : P = Q := funext fun m => propext (h m)
  rw [this]
theorem cntP_none {P : Int → Prop} (h : ∀ m, ¬ P m) : ∀ n : Nat, cntP P n = 0
  | 0 => rfl
  | n + 1 => by rw [cntP, cntP_none h n, if_neg (h n)]; rfl
theorem cntP_int {a b : Int} (h0 : 0 ≤ a) (h1 : a ≤ b) : ∀ n : Nat, cntP (fun m => a ≤ m ∧ m < b) n = if (n : Int) ≤ a then 0 else if (n : Int) ≤ b then n - a else b - a
  | 0 => by rw [if_pos (by omega)]; rfl
  | n + 1 => by
    rw [cntP, cntP_int h0 h1 n]
    by_cases g : a ≤ (n : Int) ∧ (n : Int) < b
    · rw [if_pos g]
      obtain ⟨g1, g2⟩ := g
      (repeat' split) <;> omega
    · rw [if_neg g]
      have g : (n : Int) < a ∨ b ≤ (n : Int) := by omega
      rcases g with g | g <;> ((repeat' split) <;> omega)
theorem canon_cnt {M : Nat} : ∀ {c : List Spn}, Canon c → InV M c → sumL c = cntP (InL c) M
  | [], _, _ => (cntP_none inL_nil M).symm
  | p :: c, h, hI => by
    obtain ⟨h1, h2, h3⟩ := canon_cons h
    have ih := canon_cnt h3 fun r hr => hI r (List.mem_cons_of_mem _ hr)
    have hp := hI p (by simp)
    rw [sumL, ih, cntP_add (P := InL (p :: c)) (Q := fun m => p.1 ≤ m ∧ m < p.2) (R := InL c) M fun m _ => ⟨inL_cons, fun g => by have := inL_after h g.2; omega⟩, cntP_int hp.1 hp.2.1]
    split
    · omega
    · split <;> omega
/-- The totals add up: all of two lists is the one and what the other one has beside it. -/
theorem tot_add {a b c : List Spn} {M : Nat} (ha : Canon a) (hb : Canon b) (hc : Canon c) (ia : InV M a) (ib : InV M b) (ic : InV M c) (h : ∀ m, InL a m ↔ InL b m ∨ InL c m) (hd : ∀ m, ¬ (InL b m ∧ InL c m)) : sumL a = sumL b + sumL c := by
  rw [canon_cnt ha ia, canon_cnt hb ib, canon_cnt hc ic]
  exact cntP_add M fun m _ => ⟨h m, hd m⟩
end Go.Proofs.Ytdiabpcpcilclaa
