/-
  The moments of signs and edicts, as a list. By an AI agent.; What a proposal says, place by place (for the laws RuleProposes and RuleProposed): plain mathematics. By an AI agent.; The reference's all, musts, stretches, Held and Wanted. By an AI agent.; changing, slices.Contains, metreAt; the reference's junction. By an AI agent.; looks. By an AI agent.
-/
import Derived.Test.YtneafbhiencjlaaGreatDoorMgRuleProposed6
import Derived.Test.YtneafbhiencjlaaGreatDoorMgRuleProposed8
import Derived.Test.YtneafbhiencjlaaGreatDoorMgRuleProposed9
import Derived.Test.YtneafbhiencjlaaGreatDoorMgRuleProposed10
import Derived.Test.YtneafbhiencjlaaGreatDoorMgRuleProposed11
import Derived.Deep.RegionHeld3
import Derived.Deep.AppendLies
import Derived.BigQuiet
import Derived.BigRegion
import Derived.Deep.DeepCutAuto
import Derived.StillTailTactics

namespace Go.Proofs.YtneafbhiencjlaaGreatDoor
set_option linter.unusedVariables false
set_option linter.unusedSimpArgs false
open Go.RowKit

/-- Where an hour goes in a list, from place k down. -/
def plcH (h : Int) (out : List Int) : Nat → Nat
  | 0 => 0
  | k + 1 => if h < gi out k then plcH h out k else k + 1
/-- An hour into an ascending list, once, if it is not beyond all hours. -/
def putH (out : List Int) (h : Int) : List Int :=
  if 10000000 < h ∨ (0 < plcH h out out.length ∧ gi out (plcH h out out.length - 1) = h) then out
  else out.take (plcH h out out.length) ++ h :: out.drop (plcH h out out.length)
/-- Ascending lists of the same numbers are one. -/
theorem asc_unique : ∀ {s t : List Int}, s.Pairwise (· < ·) → t.Pairwise (· < ·) → (∀ x, x ∈ s ↔ x ∈ t) → s = t
  | [], [], _, _, _ => rfl
  | [], y :: t, _, _, h => by have := (h y).2 (by simp); simp at this
  | x :: s, [], _, _, h => by have := (h x).1 (by simp); simp at this
  | x :: s, y :: t, hs, ht, h => by
    have h1 := List.pairwise_cons.1 hs
    have h2 := List.pairwise_cons.1 ht
    have hxy : x = y := by
      have a := (h x).1 (by simp)
      have b := (h y).2 (by simp)
      rw [List.mem_cons] at a b
      rcases a with a | a
      · exact a
      · rcases b with b | b
        · exact b.symm
        · have := h2.1 x a
          have := h1.1 y b
          omega
    subst hxy
    rw [asc_unique h1.2 h2.2 fun z => ?_]
    constructor
    · intro hz
      have := (h z).1 (by simp [hz])
      rw [List.mem_cons] at this
      rcases this with rfl | this
      · have := h1.1 z hz; omega
      · exact this
    · intro hz
      have := (h z).2 (by simp [hz])
      rw [List.mem_cons] at this
      rcases this with rfl | this
      · have := h2.1 z hz; omega
      · exact this
/-- The hours of covers, of signs, of edicts, in the order in which they come. -/
def hrC (cv : List Spn) : Nat → List Int
  | 0 => []
  | k + 1 => hrC cv k ++ [(gp cv k).1, (gp cv k).2]
def hrS (l : List Sgn) : Nat → List Int
  | 0 => []
  | k + 1 => (hrS l k ++ [(gs l k).up, (gs l k).dn]) ++ hrC (gs l k).cv (gs l k).cv.length
def hrE (q : List Edc) : Nat → List Int
  | 0 => []
  | k + 1 => hrE q k ++ [(ge q k).st, (ge q k).en]
def hrs (l : List Sgn) (q : List Edc) : List Int := hrS l l.length ++ hrE q q.length
/-- The moments. -/
def momL (l : List Sgn) (q : List Edc) : List Int := (hrs l q).foldl putH []
end Go.Proofs.YtneafbhiencjlaaGreatDoor

namespace Go.Proofs.YtneafbhiencjlaaGreatDoor
set_option linter.unusedVariables false
set_option linter.unusedSimpArgs false
open Go.RowKit

/-- Is there a junction at a distance? -/
def jnB (L D : Int) (js : List Int) (k : Int) : Bool := js.any fun j => dstK L D j == k
theorem jn_iff {L D : Int} {js : List Int} {k : Int} : jnB L D js k = true ↔ dstK L D k ∈ js := by
  unfold jnB
  rw [List.any_eq_true]
  constructor
  · rintro ⟨j, hj, e⟩
    have e : dstK L D j = k := by simpa using e
    rw [← e, dst_dst]; exact hj
  · intro h
    exact ⟨_, h, by simp [dst_dst]⟩
/-- What must hold at a distance. -/
def vK (L : Int) (q : List Edc) (h T D k : Int) : Int := mustV q h T D (begK L D k)
/-- What holds ahead of a look. -/
def nowJ (L D : Int) (js : List Int) (k now : Int) : Int := if jnB L D js k = true then 0 else now
/-- One look. -/
def stpN (L : Int) (js : List Int) (q : List Edc) (h T D : Int) (s : Int × List (Int × Int)) (k : Int) : Int × List (Int × Int) :=
  if vK L q h T D k = nowJ L D js k s.1 then (nowJ L D js k s.1, s.2) else (vK L q h T D k, s.2 ++ [(dstK L D k, vK L q h T D k)])
theorem stpN_fst (L : Int) (js : List Int) (q : List Edc) (h T D : Int) (s : Int × List (Int × Int)) (k : Int) : (stpN L js q h T D s k).1 = vK L q h T D k := by
  unfold stpN
  split
  · rename_i e; exact e.symm
  · rfl
theorem stpN_len (L : Int) (js : List Int) (q : List Edc) (h T D : Int) (s : Int × List (Int × Int)) (k : Int) : (stpN L js q h T D s k).2.length ≤ s.2.length + 1 := by
  unfold stpN
  split
  · simp
  · simp
/-- All looks of the first n metres. -/
def refN (L : Int) (js : List Int) (q : List Edc) (h T D : Int) : Nat → Int × List (Int × Int)
  | 0 => (0, [])
  | n + 1 => stpN L js q h T D (refN L js q h T D n) n
theorem refN_len (L : Int) (js : List Int) (q : List Edc) (h T D : Int) : ∀ n, (refN L js q h T D n).2.length ≤ n
  | 0 => Nat.le_refl _
  | n + 1 => by
    have h1 := stpN_len L js q h T D (refN L js q h T D n) n
    have h2 := refN_len L js q h T D n
    rw [refN]
    omega
/-- Where the program looks. -/
def allK (L : Int) (js : List Int) (q : List Edc) (D : Int) : List Int := ((cutsW L q q.length ++ js).map (dstK L D)).filter fun k => decide (k < L)
def looksK (L : Int) (js : List Int) (q : List Edc) (D : Int) : List Int := ascL (allK L js q D)
theorem looks_mem {L : Int} {js : List Int} {q : List Edc} {D k : Int} : k ∈ looksK L js q D ↔ k < L ∧ ∃ c, c ∈ cutsW L q q.length ++ js ∧ dstK L D c = k := by
  unfold looksK allK
  rw [asc_iff, List.mem_filter, List.mem_map]
  simp only [decide_eq_true_eq]
  exact ⟨fun ⟨a, b⟩ => ⟨b, a⟩, fun ⟨a, b⟩ => ⟨b, a⟩⟩
theorem foldl_filt {S : Type} (f : S → Nat → S) (p : Nat → Bool) (s0 : S) : ∀ n, ((List.range (n + 1)).filter p).foldl f s0 = if p n = true then f (((List.range n).filter p).foldl f s0) n else ((List.range n).filter p).foldl f s0 := fun n => by
  rw [List.range_succ, List.filter_append, List.foldl_append]
  by_cases h : p n = true
  · rw [if_pos h, List.filter_cons, if_pos h]; rfl
  · rw [if_neg h, List.filter_cons, if_neg h]; rfl
/-- Looking there alone does the same as looking everywhere. -/
theorem looks_all {L : Int} {js : List Int} {q : List Edc} {h T D : Int} (hL : 1 ≤ L) (hD : dirB D = true) (hC : ∀ c, c ∈ cutsW L q q.length → 0 ≤ c ∧ c ≤ L) (hJ : ∀ c, c ∈ js → 0 < c ∧ c < L) :
    (looksK L js q D).foldl (stpN L js q h T D) (0, []) = refN L js q h T D L.toNat := by
  have hD2 : D = 1 ∨ D = -1 := by unfold dirB at hD; simpa using hD
  have h0 : (0 : Int) ∈ looksK L js q D := by
    refine looks_mem.2 ⟨by omega, ?_⟩
    rcases hD2 with rfl | rfl
    · exact ⟨0, List.mem_append_left _ ((cutsW_mem q.length (Nat.le_refl _) _).2 (.inl rfl)), by unfold dstK; simp⟩
    · exact ⟨L, List.mem_append_left _ ((cutsW_mem q.length (Nat.le_refl _) _).2 (.inr (.inl rfl))), by unfold dstK; simp⟩
  have hin : ∀ k, k ∈ looksK L js q D → 0 ≤ k ∧ k < L := fun k hk => by
    obtain ⟨h1, c, hc, e⟩ := looks_mem.1 hk
    refine ⟨?_, h1⟩
    have hcb : 0 ≤ c ∧ c ≤ L := by
      rcases List.mem_append.1 hc with hc | hc
      · exact hC c hc
      · have := hJ c hc; omega
    rw [← e]
    exact (dst_in hD hcb.1 hcb.2).1
  -- no look is wanted elsewhere
  have hsk : ∀ n : Nat, 0 < n → (n : Int) < L → (n : Int) ∉ looksK L js q D → jnB L D js n = false ∧ vK L q h T D n = vK L q h T D ((n - 1 : Nat) : Int) := fun n hn hl hno => by
    constructor
    · cases hj : jnB L D js n with
      | false => rfl
      | true =>
        exact absurd (looks_mem.2 ⟨hl, dstK L D n, List.mem_append_right _ (jn_iff.1 hj), dst_dst⟩) hno
    · unfold vK
      refine want_const (L := L) _ _ fun c hc => ?_
      have hcn : dstK L D c ≠ n := fun e => hno (looks_mem.2 ⟨hl, c, List.mem_append_left _ hc, e⟩)
      rcases hD2 with rfl | rfl
      · unfold dstK begK at *
        simp only [if_true] at *
        omega
      · unfold dstK begK at *
        rw [if_neg (by decide)] at *
        rw [if_neg (by decide)]
        omega
  have key : ∀ n : Nat, (n : Int) ≤ L → ((List.range n).filter fun i : Nat => decide ((i : Int) ∈ looksK L js q D)).foldl (fun s i => stpN L js q h T D s (i : Nat)) (0, []) = refN L js q h T D n ∧ (0 < n → (refN L js q h T D n).1 = vK L q h T D ((n - 1 : Nat) : Int)) := fun n => by
    induction n with
    | zero => exact fun _ => ⟨rfl, fun hh => absurd hh (Nat.lt_irrefl _)⟩
    | succ n ih =>
      intro hl
      obtain ⟨i1, i2⟩ := ih (by omega)
      refine ⟨?_, fun _ => ?_⟩
      · rw [foldl_filt, i1, refN]
        by_cases hm : (n : Int) ∈ looksK L js q D
        · rw [if_pos (by simpa using hm)]
        · rw [if_neg (by simpa using hm)]
          have hn0 : 0 < n := by
            rcases Nat.eq_zero_or_pos n with rfl | hp
            · exact absurd h0 hm
            · exact hp
          obtain ⟨s1, s2⟩ := hsk n hn0 (by omega) hm
          unfold stpN nowJ
          rw [s1]
          simp only [Bool.false_eq_true, if_false]
          rw [s2, ← i2 hn0, if_pos rfl]
      · rw [refN, stpN_fst, Nat.add_sub_cancel]
  have hpw : ((List.range L.toNat).map fun i : Nat => (i : Int)).Pairwise (· < ·) := by
    rw [List.pairwise_map]
    exact List.pairwise_lt_range.imp fun h => by omega
  have hK : looksK L js q D = ((List.range L.toNat).filter fun i : Nat => decide ((i : Int) ∈ looksK L js q D)).map fun i : Nat => (i : Int) := by
    refine asc_unique (asc_pw _) ?_ fun x => ?_
    · rw [List.pairwise_map]
      exact (List.pairwise_lt_range.imp fun h => by omega : (List.range L.toNat).Pairwise fun a b : Nat => (a : Int) < b).filter _
    · rw [List.mem_map]
      constructor
      · intro hx
        obtain ⟨b1, b2⟩ := hin x hx
        refine ⟨x.toNat, List.mem_filter.2 ⟨List.mem_range.2 (by omega), ?_⟩, by omega⟩
        rw [show ((x.toNat : Nat) : Int) = x by omega]
        simpa using hx
      · rintro ⟨i, hi, rfl⟩
        simpa using (List.mem_filter.1 hi).2
  rw [hK, List.foldl_map]
  exact (key L.toNat (by omega)).1
/-- A sign that makes a value hold. -/
def kndK (T v : Int) : Int := if T = 1 then (if v = 0 then 2 else 1) else (if v = 0 then 4 else 3)
def sgC (T D h n : Int) (p : Int × Int) : Sgn := ⟨n, kndK T p.2, if T = 1 then p.2 else 0, p.1, D, T, h, h + 1, []⟩
def wayN (L : Int) (js : List Int) (q : List Edc) (h T D : Int) : List Sgn := (refN L js q h T D L.toNat).2.map (sgC T D h 0)
/-- The signs of the first k ways, without numbers. -/
def prpK (L : Int) (js : List Int) (q : List Edc) (h : Int) : Nat → List Sgn
  | 0 => []
  | k + 1 => prpK L js q h k ++ wayN L js q h (tpK k) (drK k)
/-- Numbers from i on. -/
def numS : Nat → List Sgn → List Sgn
  | _, [] => []
  | i, s :: r => { s with n := (i : Int) + 1 } :: numS (i + 1) r
theorem numS_len : ∀ (l : List Sgn) (i : Nat), (numS i l).length = l.length
  | [], _ => rfl
  | s :: r, i => by rw [numS, List.length_cons, List.length_cons, numS_len r]
theorem numS_app : ∀ (l : List Sgn) (i : Nat) (s : Sgn), numS i (l ++ [s]) = numS i l ++ [{ s with n := ((i + l.length : Nat) : Int) + 1 }]
  | [], i, s => by simp [numS]
  | x :: r, i, s => by
    rw [List.cons_append, numS, numS, numS_app r, List.cons_append, List.length_cons, show i + 1 + r.length = i + (r.length + 1) by omega]
/-- The first j numbered, the others not. -/
def mixS (l : List Sgn) (j : Nat) : List Sgn := numS 0 (l.take j) ++ l.drop j
theorem mixS_len (l : List Sgn) (j : Nat) : (mixS l j).length = l.length := by
  unfold mixS; rw [List.length_append, numS_len, List.length_take, List.length_drop]; omega
theorem mixS_zero (l : List Sgn) : mixS l 0 = l := by unfold mixS; simp [numS]
theorem mixS_all (l : List Sgn) : mixS l l.length = numS 0 l := by unfold mixS; simp
theorem mixS_succ {l : List Sgn} {j : Nat} (hj : j < l.length) : mixS l (j + 1) = (mixS l j).set j { gs (mixS l j) j with n := (j : Int) + 1 } := by
  have e : l.drop j = l[j] :: l.drop (j + 1) := List.drop_eq_getElem_cons hj
  have hlen : (numS 0 (l.take j)).length = j := by rw [numS_len, List.length_take]; omega
  have hg : gs (mixS l j) j = l[j] := by
    unfold gs mixS
    rw [List.getD_eq_getElem?_getD, List.getElem?_append_right (by omega), hlen, Nat.sub_self, e]
    rfl
  rw [hg]
  unfold mixS
  rw [List.take_add_one, List.getElem?_eq_getElem hj, Option.toList_some, numS_app, List.length_take, show 0 + min j l.length = j by omega]
  rw [List.set_append_right _ _ (by omega), hlen, Nat.sub_self, e, List.set_cons_zero, List.append_assoc]
  rfl
/-- The cells of signs without covers. -/
def cl9 (s : List Sgn) : List Value := s.flatMap fun p => [.int .i64 p.n, .int .i64 p.k, .int .i64 p.v, .int .i64 p.c, .int .i64 p.d, .int .i64 p.rk, .int .i64 p.up, .int .i64 p.dn, .slice none 0 0]
theorem cl9_app (s : List Sgn) (p : Sgn) : cl9 (s ++ [p]) = cl9 s ++ [.int .i64 p.n, .int .i64 p.k, .int .i64 p.v, .int .i64 p.c, .int .i64 p.d, .int .i64 p.rk, .int .i64 p.up, .int .i64 p.dn, .slice none 0 0] := by simp [cl9]
theorem cl9_apps (s t : List Sgn) : cl9 (s ++ t) = cl9 s ++ cl9 t := by simp [cl9]
theorem cl9_len (s : List Sgn) : (cl9 s).length = s.length * 9 := by
  induction s with
  | nil => rfl
  | cons p s ih => unfold cl9 at *; rw [List.flatMap_cons, List.length_append, ih]; simp; omega
theorem cl9_c : ∀ (s : List Sgn) (i : Nat), i < s.length → (cl9 s)[i * 9]? = some (.int .i64 (gs s i).n) ∧ (cl9 s)[i * 9 + 1]? = some (.int .i64 (gs s i).k) ∧ (cl9 s)[i * 9 + 2]? = some (.int .i64 (gs s i).v) ∧ (cl9 s)[i * 9 + 3]? = some (.int .i64 (gs s i).c) ∧ (cl9 s)[i * 9 + 4]? = some (.int .i64 (gs s i).d) ∧ (cl9 s)[i * 9 + 5]? = some (.int .i64 (gs s i).rk) ∧ (cl9 s)[i * 9 + 6]? = some (.int .i64 (gs s i).up) ∧ (cl9 s)[i * 9 + 7]? = some (.int .i64 (gs s i).dn) ∧ (cl9 s)[i * 9 + 8]? = some (.slice none 0 0)
  | [], i, hi => by simp at hi
  | p :: s, 0, hi => by simp [cl9, gs]
  | p :: s, i + 1, hi => by
    have ih := cl9_c s i (by simpa using hi)
    have e : ∀ c, c < 9 → (cl9 (p :: s))[(i + 1) * 9 + c]? = (cl9 s)[i * 9 + c]? := fun c hc => by
      unfold cl9
      rw [List.flatMap_cons, List.getElem?_append_right (by simp; omega)]
      congr 1
      simp; omega
    have g : gs (p :: s) (i + 1) = gs s i := rfl
    rw [g]
    obtain ⟨i0, i1, i2, i3, i4, i5, i6, i7, i8⟩ := ih
    exact ⟨(e 0 (by omega)).trans i0, (e 1 (by omega)).trans i1, (e 2 (by omega)).trans i2, (e 3 (by omega)).trans i3, (e 4 (by omega)).trans i4, (e 5 (by omega)).trans i5, (e 6 (by omega)).trans i6, (e 7 (by omega)).trans i7, (e 8 (by omega)).trans i8⟩
theorem cl9_set : ∀ (s : List Sgn) (i : Nat) (b : Int), i < s.length → (cl9 s).set (i * 9) (.int .i64 b) = cl9 (s.set i { gs s i with n := b })
  | [], i, b, hi => by simp at hi
  | p :: s, 0, b, hi => by simp [cl9, gs]
  | p :: s, i + 1, b, hi => by
    have ih := cl9_set s i b (by simpa using hi)
    unfold cl9 gs at *
    rw [List.flatMap_cons, List.set_append_right _ _ (by simp; omega), show (i + 1) * 9 - [Value.int .i64 p.n, .int .i64 p.k, .int .i64 p.v, .int .i64 p.c, .int .i64 p.d, .int .i64 p.rk, .int .i64 p.up, .int .i64 p.dn, .slice none 0 0].length = i * 9 from by simp; omega, ih]
    rfl
end Go.Proofs.YtneafbhiencjlaaGreatDoor

namespace Go.Proofs.YtneafbhiencjlaaGreatDoor
set_option linter.unusedVariables false
set_option linter.unusedSimpArgs false
open Go.RowKit

/-- The values of a function on n metres. -/
def valK (f : Int → Int) (n : Nat) : List Int := (List.range n).map fun i => f (i : Nat)
/-- Values come back. -/
def ValA (f : Int → Int) (n : Nat) (w : World) (e : Ending) (w' : World) : Prop := ∃ b c, e = .returned (.slice b n c) ∧ IntsS w' b (valK f n) ∧ Below w.heap.size w w'
/-- Values come back, in a block of their own. -/
def ValO (f : Int → Int) (n : Nat) (w : World) (e : Ending) (w' : World) : Prop := ∃ b c, e = .returned (.slice b n c) ∧ IntsS w' b (valK f n) ∧ (∀ x, b = some x → w.heap.size ≤ x.block) ∧ Below w.heap.size w w'
end Go.Proofs.YtneafbhiencjlaaGreatDoor

namespace Go.Proofs.YtneafbhiencjlaaGreatDoor
set_option linter.unusedVariables false
set_option linter.unusedSimpArgs false
open Go.RowKit

/-- The cells of one sign. -/
def sg9 (p : Sgn) : Value := .agg #[.int .i64 p.n, .int .i64 p.k, .int .i64 p.v, .int .i64 p.c, .int .i64 p.d, .int .i64 p.rk, .int .i64 p.up, .int .i64 p.dn, .slice none 0 0]
theorem heap_set9 {w : World} {B : Nat} {T : TypeId} {z0 z1 z2 z3 z4 z5 z6 z7 z8 : Value} (h : w.heap[B]? = some (.cells #[z0, z1, z2, z3, z4, z5, z6, z7, z8] T)) (v0 v1 v2 v3 v4 v5 v6 v7 v8 : Value) :
    ((((((((((w.setCell ⟨B, 0, none⟩ v0).setCell ⟨B, 1, none⟩ v1).setCell ⟨B, 2, none⟩ v2).setCell ⟨B, 3, none⟩ v3).setCell ⟨B, 4, none⟩ v4).setCell ⟨B, 5, none⟩ v5).setCell ⟨B, 6, none⟩ v6).setCell ⟨B, 7, none⟩ v7).setCell ⟨B, 8, none⟩ v8)).heap[B]? = some (.cells #[v0, v1, v2, v3, v4, v5, v6, v7, v8] T) := by
  have e0 : (w.setCell ⟨B, 0, none⟩ v0).heap[B]? = some (.cells #[v0, z1, z2, z3, z4, z5, z6, z7, z8] T) := heap_setCell_same _ B 0 _ T v0 h
  have e1 : ((w.setCell ⟨B, 0, none⟩ v0).setCell ⟨B, 1, none⟩ v1).heap[B]? = some (.cells #[v0, v1, z2, z3, z4, z5, z6, z7, z8] T) := heap_setCell_same _ B 1 _ T v1 e0
  have e2 : (((w.setCell ⟨B, 0, none⟩ v0).setCell ⟨B, 1, none⟩ v1).setCell ⟨B, 2, none⟩ v2).heap[B]? = some (.cells #[v0, v1, v2, z3, z4, z5, z6, z7, z8] T) := heap_setCell_same _ B 2 _ T v2 e1
  have e3 : ((((w.setCell ⟨B, 0, none⟩ v0).setCell ⟨B, 1, none⟩ v1).setCell ⟨B, 2, none⟩ v2).setCell ⟨B, 3, none⟩ v3).heap[B]? = some (.cells #[v0, v1, v2, v3, z4, z5, z6, z7, z8] T) := heap_setCell_same _ B 3 _ T v3 e2
  have e4 : (((((w.setCell ⟨B, 0, none⟩ v0).setCell ⟨B, 1, none⟩ v1).setCell ⟨B, 2, none⟩ v2).setCell ⟨B, 3, none⟩ v3).setCell ⟨B, 4, none⟩ v4).heap[B]? = some (.cells #[v0, v1, v2, v3, v4, z5, z6, z7, z8] T) := heap_setCell_same _ B 4 _ T v4 e3
  have e5 : ((((((w.setCell ⟨B, 0, none⟩ v0).setCell ⟨B, 1, none⟩ v1).setCell ⟨B, 2, none⟩ v2).setCell ⟨B, 3, none⟩ v3).setCell ⟨B, 4, none⟩ v4).setCell ⟨B, 5, none⟩ v5).heap[B]? = some (.cells #[v0, v1, v2, v3, v4, v5, z6, z7, z8] T) := heap_setCell_same _ B 5 _ T v5 e4
  have e6 : (((((((w.setCell ⟨B, 0, none⟩ v0).setCell ⟨B, 1, none⟩ v1).setCell ⟨B, 2, none⟩ v2).setCell ⟨B, 3, none⟩ v3).setCell ⟨B, 4, none⟩ v4).setCell ⟨B, 5, none⟩ v5).setCell ⟨B, 6, none⟩ v6).heap[B]? = some (.cells #[v0, v1, v2, v3, v4, v5, v6, z7, z8] T) := heap_setCell_same _ B 6 _ T v6 e5
  have e7 : ((((((((w.setCell ⟨B, 0, none⟩ v0).setCell ⟨B, 1, none⟩ v1).setCell ⟨B, 2, none⟩ v2).setCell ⟨B, 3, none⟩ v3).setCell ⟨B, 4, none⟩ v4).setCell ⟨B, 5, none⟩ v5).setCell ⟨B, 6, none⟩ v6).setCell ⟨B, 7, none⟩ v7).heap[B]? = some (.cells #[v0, v1, v2, v3, v4, v5, v6, v7, z8] T) := heap_setCell_same _ B 7 _ T v7 e6
  have e8 : (((((((((w.setCell ⟨B, 0, none⟩ v0).setCell ⟨B, 1, none⟩ v1).setCell ⟨B, 2, none⟩ v2).setCell ⟨B, 3, none⟩ v3).setCell ⟨B, 4, none⟩ v4).setCell ⟨B, 5, none⟩ v5).setCell ⟨B, 6, none⟩ v6).setCell ⟨B, 7, none⟩ v7).setCell ⟨B, 8, none⟩ v8).heap[B]? = some (.cells #[v0, v1, v2, v3, v4, v5, v6, v7, v8] T) := heap_setCell_same _ B 8 _ T v8 e7
  exact e8
set_option maxRecDepth 100000 in
set_option maxHeartbeats 4000000 in
theorem changing_r (T D v c h : Int) (hT : T = 1 ∨ T = 2) (hh : 0 ≤ h ∧ h ≤ 10000000) (w : World) :
    Calls Tryz.prog 64 #[.agg #[.int .i64 T, .int .i64 D], .int .i64 v, .int .i64 c, .int .i64 h] w fun e w' => e = .returned (sg9 (sgC T D h 0 (c, v))) ∧ Below w.heap.size w w' := by
  have hwr : IntKind.i64.wrap (h + 1) = h + 1 := IntWalk.i64_in _ (by omega)
  rcases hT with rfl | rfl
  · by_cases hv : v = 0
    · subst hv
      go_enter Tryz.func64, Tryz.ntmps64
      go_wp2_with fail
      try simp only [Exit.inBlock, Exit.then]
      refine bodyPost_ret (results_cell_row rfl _ _ (w.heap.size + 1) 51 #[.int .i64 0, .int .i64 2, .int .i64 0, .int .i64 c, .int .i64 D, .int .i64 1, .int .i64 h, .int .i64 (h + 1), .slice none 0 0] (0, 0) _ (by rfl) ?_ Tryz.underlying51 rfl (by kernel_rfl)) rfl ?_
      · exact (heap_alloc_old _ _ (by simp)).trans (heap_alloc2_new _ _ _)
      · refine ⟨by unfold sg9 sgC kndK; simp [*], ?_⟩
        (repeat' (first | exact Below.refl _ _ | refine Below.setCell ?_ (by simp <;> omega) _ | refine Below.alloc ?_ (by simp <;> omega) _))
    · have e0 : (v == 0) = false := beq_false_of_ne hv
      go_enter Tryz.func64, Tryz.ntmps64
      go_wp2_with fail
      try simp only [Exit.inBlock, Exit.then]
      refine bodyPost_ret (results_cell_row rfl _ _ (w.heap.size + 1) 51 #[.int .i64 0, .int .i64 1, .int .i64 v, .int .i64 c, .int .i64 D, .int .i64 1, .int .i64 h, .int .i64 (h + 1), .slice none 0 0] (0, 0) _ (by rfl) ?_ Tryz.underlying51 rfl (by kernel_rfl)) rfl ?_
      · exact (heap_alloc_old _ _ (by simp)).trans (heap_alloc2_new _ _ _)
      · refine ⟨by unfold sg9 sgC kndK; simp [*], ?_⟩
        (repeat' (first | exact Below.refl _ _ | refine Below.setCell ?_ (by simp <;> omega) _ | refine Below.alloc ?_ (by simp <;> omega) _))
  · by_cases hv : v = 0
    · subst hv
      go_enter Tryz.func64, Tryz.ntmps64
      go_wp2_with fail
      try simp only [Exit.inBlock, Exit.then]
      refine bodyPost_ret (results_cell_row rfl _ _ (w.heap.size + 1) 51 #[.int .i64 0, .int .i64 4, .int .i64 0, .int .i64 c, .int .i64 D, .int .i64 2, .int .i64 h, .int .i64 (h + 1), .slice none 0 0] (0, 0) _ (by rfl) ?_ Tryz.underlying51 rfl (by kernel_rfl)) rfl ?_
      · exact (heap_alloc_old _ _ (by simp)).trans (heap_alloc2_new _ _ _)
      · refine ⟨by unfold sg9 sgC kndK; simp [*], ?_⟩
        (repeat' (first | exact Below.refl _ _ | refine Below.setCell ?_ (by simp <;> omega) _ | refine Below.alloc ?_ (by simp <;> omega) _))
    · have e0 : (v == 0) = false := beq_false_of_ne hv
      go_enter Tryz.func64, Tryz.ntmps64
      go_wp2_with fail
      try simp only [Exit.inBlock, Exit.then]
      refine bodyPost_ret (results_cell_row rfl _ _ (w.heap.size + 1) 51 #[.int .i64 0, .int .i64 3, .int .i64 0, .int .i64 c, .int .i64 D, .int .i64 2, .int .i64 h, .int .i64 (h + 1), .slice none 0 0] (0, 0) _ (by rfl) ?_ Tryz.underlying51 rfl (by kernel_rfl)) rfl ?_
      · exact (heap_alloc_old _ _ (by simp)).trans (heap_alloc2_new _ _ _)
      · refine ⟨by unfold sg9 sgC kndK; simp [*], ?_⟩
        (repeat' (first | exact Below.refl _ _ | refine Below.setCell ?_ (by simp <;> omega) _ | refine Below.alloc ?_ (by simp <;> omega) _))
theorem gi_mem_iff {js : List Int} {x : Int} : x ∈ js ↔ ∃ j, j < js.length ∧ gi js j = x := by
  constructor
  · intro h
    obtain ⟨j, hj, e⟩ := List.getElem_of_mem h
    exact ⟨j, hj, by rw [gi_at _ hj]; exact e⟩
  · rintro ⟨j, hj, rfl⟩
    exact gi_mem hj
set_option maxRecDepth 100000 in
set_option maxHeartbeats 4000000 in
theorem index_r (a : Option Addr) (js : List Int) (ca : Nat) (x : Int) (w : World) (hI : IntsS w a js) :
    Calls Tryz.prog 101 #[.slice a js.length ca, .int .i64 x] w fun e w' => ∃ i : Int, e = .returned (.int .i64 i) ∧ (0 ≤ i ↔ x ∈ js) ∧ Below w.heap.size w w' := by
  obtain ⟨hlen, -, blk, off, hadr, hc⟩ := hI
  have HC := Lib.hid hc
  have HL : Hid (0 < js.length → a = some ⟨blk, off, none⟩) := Lib.hid fun h => hadr (List.ne_nil_of_length_pos h)
  clear hc hadr
  go_enter Tryz.func101, Tryz.ntmps101
  go_wp2_with fail
  go_loopw [8] (fun i wr => ∃ k : Nat, k ≤ js.length ∧ i = .int .i64 k ∧ Hid (∀ j, j < k → gi js j ≠ x) ∧ Below w.heap.size w wr) (fun i _ => js.length - (intOf i).toNat)
  case atStart => exact ⟨0, Nat.zero_le _, rfl, Lib.hid fun j hj => absurd hj (Nat.not_lt_zero _), Below.refl _ _⟩
  case round =>
    obtain ⟨k, hk, rfl, HNo, hb⟩ := hrel
    by_cases hlt : k < js.length
    · obtain rfl := HL.out (by omega)
      have c0 := cell_below (HC.out k hlt) hb
      have hMem : Hid (gi js k = x → x ∈ js) := Lib.hid fun e => gi_mem_iff.2 ⟨k, hlt, e⟩
      have HN2 : Hid (gi js k ≠ x → ∀ j, j < k + 1 → gi js j ≠ x) := Lib.hid fun e j hj => by
        by_cases e2 : j = k
        · subst e2; exact e
        · exact HNo.out j (by omega)
      have k0 : (0 : Int) ≤ (k : Int) := by omega
      have k1 : (k : Int) < (js.length : Int) := by omega
      clear HC HL HNo
      generalize gi js k = y at *
      by_cases e : x = y
      · have e0 : (x == y) = true := by simp [e]
        have HM := Lib.hid (hMem.out e.symm)
        clear e hMem HN2
        go_wp2_with fail
        go_ret
        exact ⟨k, rfl, ⟨fun _ => HM.out, fun _ => by omega⟩, hb⟩
      · have e0 : (x == y) = false := beq_false_of_ne e
        have HN := Lib.hid (HN2.out (fun e2 => e e2.symm))
        clear e hMem HN2
        go_wp2_with fail
        go_roundw
        case rel => exact ⟨k + 1, by omega, by go_num, HN, hb⟩
        case measure => simp [intOf]; omega
    · obtain rfl : k = js.length := by omega
      have HEnd : Hid ((0 : Int) ≤ -1 ↔ x ∈ js) := Lib.hid ⟨fun h => absurd h (by decide), fun h => by
        obtain ⟨j, hj, e⟩ := gi_mem_iff.1 h
        exact absurd e (HNo.out j hj)⟩
      clear HNo HC HL
      go_wp2_with fail
      go_ret
      exact ⟨-1, rfl, HEnd.out, hb⟩
set_option maxRecDepth 100000 in
set_option maxHeartbeats 4000000 in
theorem contains_r (L D : Int) (a : Option Addr) (js : List Int) (ca : Nat) (k : Int) (w : World) (hI : IntsS w a js) :
    Calls Tryz.prog 62 #[.slice a js.length ca, .int .i64 (dstK L D k)] w fun e w' => e = .returned (.bool (jnB L D js k)) ∧ Below w.heap.size w w' := by
  have HX := Lib.hid (index_r a js ca (dstK L D k) w hI)
  have HB : Hid (∀ i : Int, (0 ≤ i ↔ dstK L D k ∈ js) → decide (0 ≤ i) = jnB L D js k) := Lib.hid fun i h => by
    cases hj : jnB L D js k with
    | false => exact decide_eq_false fun h2 => by rw [jn_iff.2 (h.1 h2)] at hj; cases hj
    | true => exact decide_eq_true (h.2 (jn_iff.1 hj))
  clear hI
  generalize jnB L D js k = r at *
  generalize dstK L D k = x at *
  go_enter Tryz.func62, Tryz.ntmps62
  go_wp2_with (go_at_call 101; refine HX.out.mono ?_; rintro e w9 ⟨i, rfl, hi, hb⟩; have hi2 := HB.out i hi; clear hi)
  go_ret
  exact ⟨rfl, hb⟩
set_option maxRecDepth 100000 in
set_option maxHeartbeats 4000000 in
theorem metreAt_r (L : Int) (a : Option Addr) (n ca : Nat) (dir c : Int) (hL1 : 0 ≤ L) (hL2 : L ≤ 100000) (hc1 : -1000000 ≤ c) (hc2 : c ≤ 1000000) (w : World) :
    Calls Tryz.prog 63 #[.agg #[.int .i64 L, .slice a n ca], .int .i64 dir, .int .i64 c] w fun e w' => e = .returned (.int .i64 (begK L dir c)) ∧ Below w.heap.size w w' := by
  have H1 := Lib.hid (fun W => beginOf_r L a n ca dir c hL1 hL2 hc1 hc2 W)
  go_enter Tryz.func63, Tryz.ntmps63
  go_wp2_with fail
  obtain ⟨wB, hwB⟩ : ∃ wB, w.alloc (.cells #[.int .i64 L, .slice a n ca] 24) = wB := ⟨_, rfl⟩
  have hb : Below w.heap.size w wB := by rw [← hwB]; exact (Below.refl _ _).alloc (Nat.le_refl _) _
  have l0 : wB.cell? ⟨w.heap.size, 0, none⟩ = some (.int .i64 L) := by rw [← hwB]; simp [go_sem]
  have l1 : wB.cell? ⟨w.heap.size, 1, none⟩ = some (.slice a n ca) := by rw [← hwB]; simp [go_sem]
  rw [hwB]
  clear hwB
  go_wp2_with (go_at_call 67; refine (H1.out _).mono ?_; rintro e w1 ⟨rfl, hb1⟩)
  go_ret
  exact ⟨rfl, hb.trans (hb1.mono hb.size)⟩
set_option maxRecDepth 100000 in
set_option maxHeartbeats 4000000 in
theorem refJunction_r (L : Int) (a : Option Addr) (js : List Int) (ca : Nat) (D k : Int) (hL1 : 0 ≤ L) (hL2 : L ≤ 100000) (hJ : ∀ j, j < js.length → 0 ≤ gi js j ∧ gi js j ≤ 100000) (w : World) (hI : IntsS w a js) :
    Calls Tryz.prog 27 #[.agg #[.int .i64 L, .slice a js.length ca], .int .i64 D, .int .i64 k] w fun e w' => e = .returned (.bool (jnB L D js k)) ∧ Below w.heap.size w w' := by
  have HDi0 := Lib.hid (fun (i : Nat) W (hi : i < js.length) => refDistance_r L a js.length ca D (gi js i) hL1 hL2 (by have := hJ i hi; omega) (by have := hJ i hi; omega) W)
  obtain ⟨hlen, -, ab, ao, hadr, hc⟩ := hI
  have HC := Lib.hid hc
  have HL : Hid (0 < js.length → a = some ⟨ab, ao, none⟩) := Lib.hid fun h => hadr (List.ne_nil_of_length_pos h)
  have HYes : Hid (∀ i, i < js.length → dstK L D (gi js i) = k → jnB L D js k = true) := Lib.hid fun i hi e => jn_iff.2 (by rw [← e, dst_dst]; exact gi_mem hi)
  have HNo : Hid ((∀ i, i < js.length → dstK L D (gi js i) ≠ k) → jnB L D js k = false) := Lib.hid fun h => by
    cases hj : jnB L D js k with
    | false => rfl
    | true =>
      obtain ⟨j, hj2, e⟩ := gi_mem_iff.1 (jn_iff.1 hj)
      exact absurd (by rw [e, dst_dst]) (h j hj2)
  clear hc hadr hJ hL1 hL2
  generalize jnB L D js k = J at *
  go_enter Tryz.func27, Tryz.ntmps27
  go_upto_region 1 with (fail)
  obtain ⟨wB, hwB⟩ : ∃ wB, w.alloc (.cells #[.int .i64 L, .slice a js.length ca] 24) = wB := ⟨_, rfl⟩
  have hb : Below w.heap.size w wB := by rw [← hwB]; exact (Below.refl _ _).alloc (Nat.le_refl _) _
  have l0 : wB.cell? ⟨w.heap.size, 0, none⟩ = some (.int .i64 L) := by rw [← hwB]; simp [go_sem]
  have l1 : wB.cell? ⟨w.heap.size, 1, none⟩ = some (.slice a js.length ca) := by rw [← hwB]; simp [go_sem]
  rw [hwB]
  clear hwB
  have L0 := Lib.hid l0
  have L1 := Lib.hid l1
  have HB := Lib.hid hb
  clear l0 l1 hb
  go_wp2_with fail
  go_loopw [7] (fun i9 wr => ∃ i : Nat, i ≤ js.length ∧ i9 = .int .i64 i ∧ Hid (∀ j, j < i → dstK L D (gi js j) ≠ k) ∧ Below wB.heap.size wB wr) (fun i9 _ => js.length - (intOf i9).toNat)
  case atStart => exact ⟨0, Nat.zero_le _, rfl, Lib.hid fun j hj => absurd hj (Nat.not_lt_zero _), Below.refl _ _⟩
  case round =>
    obtain ⟨i, hi, rfl, HN1, hbr⟩ := hrel
    have l0 := cell_below L0.out hbr
    have l1 := cell_below L1.out hbr
    have hzl := block_lt l0
    by_cases hlt : i < js.length
    · have hae := HL.out (by omega)
      have cx := cell_below (HC.out i hlt) (HB.out.trans (hbr.mono HB.out.size))
      have hzx := block_lt cx
      have HDi := Lib.hid (fun W => HDi0.out i W hlt)
      have HN2 : Hid (dstK L D (gi js i) ≠ k → ∀ j, j < i + 1 → dstK L D (gi js j) ≠ k) := Lib.hid fun e j hj => by
        by_cases e2 : j = i
        · subst e2; exact e
        · exact HN1.out j (by omega)
      have HY := Lib.hid (HYes.out i hlt)
      have i0 : (0 : Int) ≤ (i : Int) := by omega
      have i1 : (i : Int) < (js.length : Int) := by omega
      subst hae
      clear HC HL HN1 HYes HNo HDi0 L0 L1
      generalize gi js i = x at *
      obtain ⟨y, hy⟩ : ∃ y, dstK L D x = y := ⟨_, rfl⟩
      rw [hy] at HDi HN2 HY
      clear hy
      obtain ⟨r, hr⟩ : ∃ r, (y == k) = r := ⟨_, rfl⟩
      go_wp2_with fail
      refine wp_region_held_drew (S := fun w' => Below wr.heap.size wr w') (by kernel_rfl) ((Below.refl _ _).drew) (fun hHeld => ?_)
      refine wpAnyH_take (i := 0) (oi := { dst := some 15, op := Go.Op.load 24 (Go.Operand.tmp 3), type := 24, pos := "ref.go:377", after := #[], guard := none }) (v := .agg #[.int .i64 L, .slice (some ⟨ab, ao, none⟩) js.length ca]) rfl (by kernel_rfl) (by kernel_rfl) (by kernel_rfl) (fun _ _ _ h => h) (.inl ⟨by kernel_rfl, fun w9 h9 => by
        clear hHeld
        have d0 := (h9.cell (p := ⟨w.heap.size, 0, none⟩) hzl).trans l0
        have d1 := (h9.cell (p := ⟨w.heap.size, 1, none⟩) hzl).trans l1
        clear h9
        go_simp⟩) hHeld ?_
      refine takeU (i := 1) (some 16) (.int .i64 D) (by kernel_rfl) (by kernel_rfl) (by kernel_rfl) (by kernel_rfl) (by kernel_rfl) (fun _ => by kernel_rfl) (fun _ _ _ h => h) hHeld ?_
      refine takeU (i := 2) (some 17) (.pointer (some ⟨w.heap.size, 1, none⟩)) (by kernel_rfl) (by kernel_rfl) (by kernel_rfl) (by kernel_rfl) (by kernel_rfl) (fun _ => by kernel_rfl) (fun _ _ _ h => h) hHeld ?_
      refine wpAnyH_take (i := 3) (oi := { dst := some 18, op := Go.Op.load 22 (Go.Operand.tmp 17), type := 22, pos := "ref.go:377", after := #[{ on := 2, ground := Go.Ground.data }], guard := none }) (v := .slice (some ⟨ab, ao, none⟩) js.length ca) rfl (by kernel_rfl) (by kernel_rfl) (by kernel_rfl) (fun _ _ _ h => h) (.inl ⟨by kernel_rfl, fun w9 h9 => by
        clear hHeld
        have d0 := (h9.cell (p := ⟨w.heap.size, 1, none⟩) hzl).trans l1
        clear h9
        go_simp⟩) hHeld ?_
      refine takeU (i := 4) (some 19) (.int .i64 (i : Nat)) (by kernel_rfl) (by kernel_rfl) (by kernel_rfl) (by kernel_rfl) (by kernel_rfl) (fun _ => by kernel_rfl) (fun _ _ _ h => h) hHeld ?_
      refine wpAnyH_take (i := 5) (oi := { dst := some 20, op := Go.Op.indexAddr 22 (Go.Operand.tmp 18) (Go.Operand.tmp 19), type := 0, pos := "ref.go:377", after := #[{ on := 3, ground := Go.Ground.data }, { on := 4, ground := Go.Ground.data }], guard := none }) (v := .pointer (some ⟨ab, ao + i, none⟩)) rfl (by kernel_rfl) (by kernel_rfl) (by kernel_rfl) (fun _ _ _ h => h) (.inl ⟨by kernel_rfl, fun w9 h9 => by
        clear hHeld h9
        go_simp⟩) hHeld ?_
      refine wpAnyH_take (i := 6) (oi := { dst := some 21, op := Go.Op.load 3 (Go.Operand.tmp 20), type := 3, pos := "ref.go:377", after := #[{ on := 5, ground := Go.Ground.data }], guard := none }) (v := .int .i64 x) rfl (by kernel_rfl) (by kernel_rfl) (by kernel_rfl) (fun _ _ _ h => h) (.inl ⟨by kernel_rfl, fun w9 h9 => by
        clear hHeld
        have d0 := (h9.cell (p := ⟨ab, ao + i, none⟩) hzx).trans cx
        clear h9
        go_simp⟩) hHeld ?_
      refine takeU (i := 8) (some 23) (.int .i64 k) (by kernel_rfl) (by kernel_rfl) (by kernel_rfl) (by kernel_rfl) (by kernel_rfl) (fun _ => by kernel_rfl) (fun _ _ _ h => h) hHeld ?_
      try simp only [Act.put, List.setIfInBounds_toArray, List.set_cons_zero, List.set_cons_succ]
      refine wpAnyH_ready (rs := [7]) (by kernel_rfl) (by simp) ?_
      refine AllReadyH.cons (o := { dst := some 22, op := Go.Op.call { callee := Go.Callee.value (Go.Operand.func 30), args := #[Go.Operand.tmp 15, Go.Operand.tmp 16, Go.Operand.tmp 21], argTypes := #[24, 3, 3] }, type := 3, pos := "ref.go:377", after := #[{ on := 0, ground := Go.Ground.data }, { on := 1, ground := Go.Ground.data }, { on := 6, ground := Go.Ground.data }], guard := none }) rfl (fun K hK => ?_) AllReadyH.nil
      go_simp
      go_at_call 30
      refine (HDi.out _).mono ?_
      rintro e w79 ⟨rfl, hb79⟩
      refine hK.out _ _ (hHeld.trans (hb79.mono hHeld.size)) (fun hHeld => ?_)
      clear hK K hb79
      try simp only [Act.put, List.setIfInBounds_toArray, List.set_cons_zero, List.set_cons_succ]
      refine wpAnyH_take (i := 9) (oi := { dst := some 24, op := Go.Op.binOp Go.BinOp.eql 3 (Go.Operand.tmp 22) (Go.Operand.tmp 23) 3, type := 4, pos := "ref.go:377", after := #[{ on := 7, ground := Go.Ground.data }, { on := 8, ground := Go.Ground.data }], guard := none }) (v := .bool r) rfl (by kernel_rfl) (by kernel_rfl) (by kernel_rfl) (fun _ _ _ h => h) (.inl ⟨by kernel_rfl, fun w9 h9 => by
        clear hHeld h9
        go_simp⟩) hHeld ?_
      refine wpAnyH_done (by kernel_rfl) ?_ _
      try simp only [Act.put, List.setIfInBounds_toArray, List.set_cons_zero, List.set_cons_succ]
      cases r with
      | true =>
        have HJ := Lib.hid (HY.out (by simpa using hr))
        clear hr HY HN2
        go_wp2_with fail
        go_ret
        exact ⟨by rw [HJ.out]; rfl, HB.out.trans ((hbr.trans (hHeld.mono hbr.size)).mono HB.out.size)⟩
      | false =>
        have HN := Lib.hid (HN2.out (fun e => by rw [e] at hr; simp at hr))
        clear hr HY HN2
        go_wp2_with fail
        go_roundw
        case rel => exact ⟨i + 1, by omega, by go_num, HN, hbr.trans (hHeld.mono hbr.size)⟩
        case measure => simp [intOf]; omega
    · obtain rfl : i = js.length := by omega
      have HJ := Lib.hid (HNo.out HN1.out)
      clear HC HL HN1 HYes HNo HDi0
      go_wp2_with fail
      go_ret
      exact ⟨by rw [HJ.out]; rfl, HB.out.trans (hbr.mono HB.out.size)⟩
end Go.Proofs.YtneafbhiencjlaaGreatDoor

namespace Go.Proofs.YtneafbhiencjlaaGreatDoor
set_option linter.unusedVariables false
set_option linter.unusedSimpArgs false
open Go.RowKit

/-- The distances of the first k chainages, those ahead of the end. -/
def flK (L D : Int) (CD : List Int) (k : Nat) : List Int := ((CD.take k).map (dstK L D)).filter fun x => decide (x < L)
theorem flK_len (L D : Int) (CD : List Int) (k : Nat) : (flK L D CD k).length ≤ k := by
  unfold flK
  refine Nat.le_trans (List.length_filter_le _ _) ?_
  rw [List.length_map, List.length_take]; omega
theorem flK_succ {L D : Int} {CD : List Int} {k : Nat} (hk : k < CD.length) : flK L D CD (k + 1) = if dstK L D (gi CD k) < L then flK L D CD k ++ [dstK L D (gi CD k)] else flK L D CD k := by
  unfold flK
  rw [List.take_add_one, List.getElem?_eq_getElem hk, Option.toList_some, List.map_append, List.filter_append, gi_at _ hk]
  by_cases h : dstK L D CD[k] < L
  · rw [if_pos h]
    simp [h]
  · rw [if_neg h]
    simp [h]
set_option maxRecDepth 100000 in
set_option maxHeartbeats 4000000 in
theorem looks_r (L : Int) (a : Option Addr) (js : List Int) (ca : Nat) (D : Int) (q : List Edc) (F0 : Value) (aq : Option Addr) (cq1 : Nat) (hV : lstE L js [] q = 0) (hD : dirB D = true) (w : World) (hI : IntsS w a js) (hQ : IntsS w aq (cutsW L q q.length)) :
    Calls Tryz.prog 60 #[.agg #[.int .i64 L, .slice a js.length ca], .int .i64 D, .agg #[F0, .slice aq (cutsW L q q.length).length cq1]] w fun e w' => ∃ b c, e = .returned (.slice b (looksK L js q D).length c) ∧ IntsS w' b (looksK L js q D) ∧ Below w.heap.size w w' := by
  obtain ⟨hl, hL1, hL2⟩ := lst_line hV
  have hjl := ((line_iff L js).1 hl).2.1
  have hjm := ((line_iff L js).1 hl).2.2.1
  have hql := edcs_len (lst_edcs hV)
  obtain ⟨-, -, hcm⟩ := want_cuts hV
  have hcl := cutsW_len L q q.length
  have hin : ∀ k, k ∈ looksK L js q D → 0 ≤ k ∧ k < L := fun k hk => by
    obtain ⟨h1, c, hc, e⟩ := looks_mem.1 hk
    refine ⟨?_, h1⟩
    have hcb : 0 ≤ c ∧ c ≤ L := by
      rcases List.mem_append.1 hc with hc | hc
      · exact hcm c hc
      · have := hjm c hc; omega
    rw [← e]
    exact (dst_in hD hcb.1 hcb.2).1
  have HRI : Hid (∀ j, j < (looksK L js q D).length → I64 (gi (looksK L js q D) j)) := Lib.hid fun j hj => by have := hin _ (gi_mem hj); unfold I64; omega
  have hCb : ∀ c, c ∈ cutsW L q q.length ++ js → 0 ≤ c ∧ c ≤ L := fun c hc => by
    rcases List.mem_append.1 hc with hc | hc
    · exact hcm c hc
    · have := hjm c hc; omega
  obtain ⟨CA, hCA⟩ : ∃ CA, cutsW L q q.length = CA := ⟨_, rfl⟩
  obtain ⟨CD, hCD⟩ : ∃ CD, CA ++ js = CD := ⟨_, rfl⟩
  have HAll : Hid (Lib.compact (srt (flK L D CD CD.length)) = looksK L js q D) := Lib.hid (by
    show _ = Lib.compact (srt (allK L js q D))
    unfold flK allK
    rw [List.take_length, hCA, hCD])
  have HCc := Lib.hid (fun gb W (hW : Below w.heap.size w W) y0 y1 => show Calls Tryz.prog 35 #[.slice (some ⟨gb, 0, none⟩) 2 2] W (fun e w' => ∃ a c, e = .returned (.slice a CD.length c) ∧ w'.ownsRow W.heap.size 3 1 (.slice a CD.length c) CD.length (clI CD) ∧ Below W.heap.size W w') by
    have := concat2_r gb aq a CA js cq1 ca W (by rw [← hCA]; exact hQ.below hW) (hI.below hW) (by rw [← hCA, hcl]; omega) (by rw [← hCA, hcl]; omega) y0 y1
    rw [hCD] at this
    exact this)
  rw [hCA, hCD] at hCb
  have hDl : CD.length ≤ 1000 := by rw [← hCD, List.length_append, ← hCA, hcl]; omega
  have HCb : Hid (∀ j, j < CD.length → 0 ≤ gi CD j ∧ gi CD j ≤ 100000) := Lib.hid fun j hj => by have := hCb _ (gi_mem hj); omega
  have HI64 : Hid (∀ j, j < CD.length → I64 (gi CD j)) := Lib.hid fun j hj => by have := hCb _ (gi_mem hj); unfold I64; omega
  have HDs0 := Lib.hid (fun (c : Int) W (hc : 0 ≤ c ∧ c ≤ 100000) => distance_r L a js.length ca D c (by omega) hL2 (by omega) (by omega) W)
  obtain ⟨RES, hRes⟩ : ∃ RES, looksK L js q D = RES := ⟨_, rfl⟩
  rw [hRes] at HAll HRI ⊢
  rw [hCA]
  obtain ⟨n0, hi, hz0, hz1, hz2⟩ := info_parts infoInt
  clear hI hQ hV hjm hcm hcl hin hCb hCA hCD hRes hl hD
  go_enter Tryz.func60, Tryz.ntmps60
  go_upto_region 2 with (fail)
  obtain ⟨wB, hwB⟩ : ∃ wB, (w.alloc (.cells #[.int .i64 L, .slice a js.length ca] 24)).alloc (.cells #[F0, .slice aq CA.length cq1] 67) = wB := ⟨_, rfl⟩
  have hb : Below w.heap.size w wB := by rw [← hwB]; exact ((Below.refl _ _).alloc (Nat.le_refl _) _).alloc (by simp) _
  have l0 : wB.cell? ⟨w.heap.size, 0, none⟩ = some (.int .i64 L) := by rw [← hwB]; simp [go_sem]
  have l1 : wB.cell? ⟨w.heap.size, 1, none⟩ = some (.slice a js.length ca) := by rw [← hwB]; simp [go_sem]
  have k1 : wB.cell? ⟨w.heap.size + 1, 1, none⟩ = some (.slice aq CA.length cq1) := by rw [← hwB]; simp [go_sem]
  rw [hwB]
  clear hwB
  have HAl : Hid (Below w.heap.size w (wB.alloc (.cells #[.slice aq CA.length cq1, .slice a js.length ca] 22))) := Lib.hid (hb.alloc hb.size _)
  have HAl2 : Hid (Below wB.heap.size wB (wB.alloc (.cells #[.slice aq CA.length cq1, .slice a js.length ca] 22))) := Lib.hid ((Below.refl _ _).alloc (Nat.le_refl _) _)
  have HY : Hid ((wB.alloc (.cells #[.slice aq CA.length cq1, .slice a js.length ca] 22)).cell? ⟨wB.heap.size, 0, none⟩ = some (.slice aq CA.length cq1) ∧ (wB.alloc (.cells #[.slice aq CA.length cq1, .slice a js.length ca] 22)).cell? ⟨wB.heap.size, 1, none⟩ = some (.slice a js.length ca)) := Lib.hid ⟨by simp [go_sem], by simp [go_sem]⟩
  go_wp2_with (go_at_call 35; refine (HCc.out wB.heap.size _ HAl.out HY.out.1 HY.out.2).mono ?_; rintro e w8 ⟨a8, c8, rfl, ho8, hb8x⟩; have hI8 := Lib.hid (ints_own ho8 (by omega) HI64.out); have hb8 := HAl2.out.trans (hb8x.mono HAl2.out.size); clear ho8 hb8x)
  have L0 := Lib.hid (cell_below l0 hb8)
  have L1 := Lib.hid (cell_below l1 hb8)
  have HB := Lib.hid (hb.trans (hb8.mono hb.size))
  obtain ⟨-, -, blk, off, hadr, hc8⟩ := hI8.out
  have HC := Lib.hid hc8
  have HLa : Hid (0 < CD.length → a8 = some ⟨blk, off, none⟩) := Lib.hid fun h => hadr (List.ne_nil_of_length_pos h)
  clear l0 l1 k1 hb hb8 HAl HAl2 HY HCc hI8 hadr hc8 HI64
  go_loopw [7, 18] (fun v i wr => ∃ (k : Nat) (av : Option Addr) (cv : Nat), k ≤ CD.length ∧ i = .int .i64 k ∧ v = .slice av (flK L D CD k).length cv ∧ Hid (wr.ownsRow w8.heap.size 3 1 (.slice av (flK L D CD k).length cv) (flK L D CD k).length (clI (flK L D CD k))) ∧ Below w8.heap.size w8 wr) (fun _ i _ => CD.length - (intOf i).toNat)
  case atStart => exact ⟨0, none, 0, Nat.zero_le _, rfl, rfl, Lib.hid (World.ownsRow_nil _ _ _ _), Below.refl _ _⟩
  case round =>
    obtain ⟨k, av, cv, hk, rfl, rfl, HRow, hbr⟩ := hrel
    by_cases hlt : k < CD.length
    · obtain rfl := HLa.out (by omega)
      have l0 := cell_below L0.out hbr
      have l1 := cell_below L1.out hbr
      have c0 := cell_below (HC.out k hlt) hbr
      have HDs := Lib.hid (fun W => HDs0.out (gi CD k) W (HCb.out k hlt))
      have HNx := Lib.hid (flK_succ (L := L) (D := D) hlt)
      have hfl := flK_len L D CD k
      have k0 : (0 : Int) ≤ (k : Int) := by omega
      have k1 : (k : Int) < (CD.length : Int) := by omega
      clear HC HLa HDs0 HCb
      generalize gi CD k = y at *
      generalize dstK L D y = d at *
      obtain ⟨M, hM⟩ : ∃ M, flK L D CD k = M := ⟨_, rfl⟩
      rw [hM] at HNx HRow hfl ⊢
      clear hM
      go_upto_region 6 with (go_at_call 61; refine (HDs.out _).mono ?_; rintro e w3 ⟨rfl, hb3⟩)
      have hbr := hbr.trans (hb3.mono hbr.size)
      have HRow := Lib.hid (owns_belowI HRow.out hb3)
      replace l0 := cell_below l0 hb3
      obtain ⟨wA, rfl⟩ : ∃ wA : World, wA = w3 := ⟨_, rfl⟩
      clear HDs hb3 l1 c0
      by_cases hdl : d < L
      · have HNn : Hid (flK L D CD (k + 1) = M ++ [d]) := Lib.hid (by rw [HNx.out, if_pos hdl])
        have HAP : Hid (M.length + 1 = (flK L D CD (k + 1)).length ∧ clI M ++ [.int .i64 d] = clI (flK L D CD (k + 1))) := Lib.hid (by rw [HNn.out, clI_app]; exact ⟨by simp, rfl⟩)
        have hown := Lib.hid (HRow.out.alloc (.cells #[.int .i64 d] 3))
        have hbs := hbr.size
        clear HNx HNn HRow
        go_wp2_with (first | (at_builtin; go_loud (refine wpList_append_lies _ rfl _ _ 22 rfl w8.heap.size 3 n0 _ 1 8 Tryz.underlying22 hi hz0 hz1 hz2 rfl (by decide) (.slice _ M.length cv) M.length _ (by rfl) hown.out ⟨wA.heap.size, 0, none⟩ 1 1 [.int .i64 d] (by rfl) (by rfl) ?d1 ?d2 (by decide) ?d3 ?d4 ?d5 _ rfl ?_)))
        case d1 =>
          refine World.news_of_block (cs := #[.int .i64 d]) (t := 3) (fr := (0, 0)) ?_
          exact heap_alloc_new _ _
        case d2 => simp [Value.oneCell']
        case d3 => unfold maxLen; omega
        case d4 => omega
        case d5 => first | (simp; omega) | simp | omega
        intro g6 c6 w6 hown6 hgrow6 hat6 hlt6
        have hb6 : Below w8.heap.size w8 w6 := ((hbr.alloc hbs _).grown hgrow6 (by first | (simp; omega) | simp | omega) (fun z hz => owns_blockI hown.out hz))
        go_wp2_with fail
        go_roundw
        case rel => exact ⟨k + 1, some ⟨g6, 0, none⟩, c6, by omega, by go_num, by rw [← HAP.out.1], Lib.hid (by rw [← HAP.out.1, ← HAP.out.2]; exact hown6), hb6⟩
        case measure => simp [intOf]; omega
      · have HNn : Hid (flK L D CD (k + 1) = M) := Lib.hid (by rw [HNx.out, if_neg hdl])
        clear HNx
        go_wp2_with fail
        go_roundw
        case rel => exact ⟨k + 1, av, cv, by omega, by go_num, by rw [HNn.out], Lib.hid (by rw [HNn.out]; exact HRow.out), hbr⟩
        case measure => simp [intOf]; omega
    · obtain rfl : k = CD.length := by omega
      have hfl := flK_len L D CD CD.length
      obtain ⟨M, hM⟩ : ∃ M, flK L D CD CD.length = M := ⟨_, rfl⟩
      rw [hM] at HAll HRow hfl ⊢
      have HSo := Lib.hid (sort_own w8.heap.size cv av M wr HRow.out (by omega))
      have HCo := Lib.hid (fun W (h : W.ownsRow w8.heap.size 3 1 (.slice av M.length cv) M.length (clI (srt M))) => show Calls Tryz.prog 70 #[.slice av M.length cv] W (fun e w' => e = .returned (.slice av RES.length cv) ∧ w'.ownsRow w8.heap.size 3 1 (.slice av RES.length cv) RES.length (clI RES) ∧ (w8.heap.size ≤ W.heap.size → Below w8.heap.size W w')) by
        have := compact_own w8.heap.size cv av (srt M) W (by rw [srt_len]; exact h) (by rw [srt_len]; omega)
        rw [srt_len, HAll.out] at this
        exact this)
      have hRl : RES.length ≤ 1000 := by have := cmp_len (srt M); rw [HAll.out, srt_len] at this; omega
      have hbs := hbr.size
      clear hM HRow HC HLa HDs0 HCb HAll
      go_wp2_with (first | (go_at_call 92; refine HSo.out.mono ?_; rintro e w5 ⟨rfl, ho5, hb5⟩; have hb5 := hb5 hbs) | (go_at_call 70; refine (HCo.out _ ho5).mono ?_; rintro e w6 ⟨rfl, ho6, hb6⟩; have hb6 := hb6 (Nat.le_trans hbs hb5.size)))
      go_ret
      exact ⟨av, cv, rfl, ints_own ho6 (by omega) HRI.out, HB.out.trans (((hbr.trans hb5).trans hb6).mono HB.out.size)⟩
end Go.Proofs.YtneafbhiencjlaaGreatDoor
