/-
  The program's Compare. By an AI agent.; From the rows' lists to the table of ways (package rule). By an AI agent.; The reference's all, musts, stretches, Held and Wanted. By an AI agent.; Library functions laid at this program, in plain words. By an AI agent.; A map from ints to bools that the call itself has made, read as the set of its keys. By an AI agent.
-/
import Derived.Test.YtlpdjinhkmgbgaaGreatDoorMgRuleWays10
import Derived.Test.YtlpdjinhkmgbgaaGreatDoorMgRuleWays11
import Derived.Deep.RegionHeld3
import Derived.Deep.DeepCutAuto
import Derived.BigQuiet
import Derived.BigRegion
import Derived.StillTailTactics
import Derived.Deep.AppendLies
import Derived.Test.YtlpdjinhkmgbgaaGreatDoorRows
import Derived.ProofKit
import Derived.OpenShut
import Derived.LaidMore
import Derived.Lib.LaidTab
import Derived.Stop.LaidErr
import Derived.ChangeAgain
import Derived.Stop.Joined
import Derived.Shelf.SlIterI.Nil
import Derived.Ground.GgzProg
import Derived.Test.YtlpdjinhkmgbgaaGreatDoorProg
import Derived.Maps.OwnSet
import Derived.Maps.OwnOps
import Derived.Maps.Views
import Derived.OwnWalk
import Derived.Below
import Derived.Lib.SlKeysI

namespace Go.Proofs.YtlpdjinhkmgbgaaGreatDoor
set_option linter.unusedVariables false
set_option linter.unusedSimpArgs false
open Go.RowKit

/-- The four ways as the program's text lays them. -/
def WayTab (w : World) : Prop := 0 < w.heap.size ∧ w.cell? ⟨0, 0, none⟩ = some (.int .i64 1) ∧ w.cell? ⟨0, 1, none⟩ = some (.int .i64 1) ∧ w.cell? ⟨0, 2, none⟩ = some (.int .i64 1) ∧ w.cell? ⟨0, 3, none⟩ = some (.int .i64 (-1)) ∧ w.cell? ⟨0, 4, none⟩ = some (.int .i64 2) ∧ w.cell? ⟨0, 5, none⟩ = some (.int .i64 1) ∧ w.cell? ⟨0, 6, none⟩ = some (.int .i64 2) ∧ w.cell? ⟨0, 7, none⟩ = some (.int .i64 (-1))
theorem WayTab.below {w w' : World} (h : WayTab w) (hb : Below w.heap.size w w') : WayTab w' := by
  obtain ⟨hz, c0, c1, c2, c3, c4, c5, c6, c7⟩ := h
  exact ⟨Nat.lt_of_lt_of_le hz hb.size, cell_below c0 hb, cell_below c1 hb, cell_below c2 hb, cell_below c3 hb, cell_below c4 hb, cell_below c5 hb, cell_below c6 hb, cell_below c7 hb⟩
/-- What the closure of told reads. -/
def TMem (L : Int) (a : Option Addr) (js : List Int) (ca : Nat) (dir tp : Int) (row : List Pst) (ar : Option Addr) (cr rb wb lb : Nat) (aq : Option Addr) (w : World) : Prop :=
  PstS w ar row ∧ w.cell? ⟨rb, 0, none⟩ = some (.slice ar row.length cr) ∧ w.cell? ⟨wb, 0, none⟩ = some (.int .i64 tp) ∧ w.cell? ⟨wb, 1, none⟩ = some (.int .i64 dir) ∧ w.cell? ⟨lb, 0, none⟩ = some (.int .i64 L) ∧ w.cell? ⟨lb, 1, none⟩ = some (.slice a js.length ca) ∧ IntsS w aq (cutsK L dir row row.length)
theorem TMem.below {L : Int} {a : Option Addr} {js : List Int} {ca : Nat} {dir tp : Int} {row : List Pst} {ar : Option Addr} {cr rb wb lb : Nat} {aq : Option Addr} {w w' : World} (h : TMem L a js ca dir tp row ar cr rb wb lb aq w) (hb : Below w.heap.size w w') : TMem L a js ca dir tp row ar cr rb wb lb aq w' := by
  obtain ⟨h1, h2, h3, h4, h5, h6, h7⟩ := h
  exact ⟨h1.below hb, cell_below h2 hb, cell_below h3 hb, cell_below h4 hb, cell_below h5 hb, cell_below h6 hb, h7.below hb⟩
/-- What the closure of wanted reads. -/
def WMem (L : Int) (ae : Option Addr) (q : List Edc) (cq : Nat) (h tp dir : Int) (eb hb wb : Nat) (aq : Option Addr) (w : World) : Prop :=
  w.cell? ⟨eb, 0, none⟩ = some (.slice ae q.length cq) ∧ w.cell? ⟨hb, 0, none⟩ = some (.int .i64 h) ∧ w.cell? ⟨wb, 0, none⟩ = some (.int .i64 tp) ∧ w.cell? ⟨wb, 1, none⟩ = some (.int .i64 dir) ∧ IntsS w aq (cutsW L q q.length)
theorem WMem.below {L : Int} {ae : Option Addr} {q : List Edc} {cq : Nat} {h tp dir : Int} {eb hb wb : Nat} {aq : Option Addr} {w w' : World} (g : WMem L ae q cq h tp dir eb hb wb aq w) (hw : Below w.heap.size w w') : WMem L ae q cq h tp dir eb hb wb aq w' := by
  obtain ⟨h1, h2, h3, h4, h5⟩ := g
  exact ⟨cell_below h1 hw, cell_below h2 hw, cell_below h3 hw, cell_below h4 hw, h5.below hw⟩
theorem ints_farC {w w' : World} {a : Option Addr} {l : List Int} (h : IntsS w a l) (hf : ∀ b o k n, w.cell? ⟨b, o, none⟩ = some (.int k n) → w'.heap[b]? = w.heap[b]?) : IntsS w' a l := by
  obtain ⟨h0, h1, blk, off, h2, h3⟩ := h
  exact ⟨h0, h1, blk, off, h2, fun i hi => (World.cell?_of_block (w := w) (w' := w') (a := ⟨blk, off + i, none⟩) (hf _ _ _ _ (h3 i hi))).trans (h3 i hi)⟩
theorem nil_box {w : World} {B b : Nat} {fr : Nat × Nat} (hB : w.heap[B]? = some (.cells #[.nilFunc, .slice none 0 0] 77 fr)) : (∀ o k n, w.cell? ⟨b, o, none⟩ = some (.int k n) → b ≠ B) ∧ (∀ a n c, w.cell? ⟨b, 0, none⟩ = some (.slice a n c) → b ≠ B) := by
  refine ⟨fun o k n hc e => ?_, fun a n c hc e => ?_⟩
  · subst e
    rw [cell_of_row w b o _ _ _ hB] at hc
    rcases o with _ | _ | o
    · simp at hc
    · simp at hc
    · simp at hc
  · subst e
    rw [cell_of_row w b 0 _ _ _ hB] at hc
    simp at hc
section
variable {w w' : World} {B1 B2 : Nat} {f1 f2 : Nat × Nat}
theorem far_int (h1 : w.heap[B1]? = some (.cells #[.nilFunc, .slice none 0 0] 77 f1)) (h2 : w.heap[B2]? = some (.cells #[.nilFunc, .slice none 0 0] 77 f2)) (hf : ∀ b, b ≠ B1 → b ≠ B2 → w'.heap[b]? = w.heap[b]?) : ∀ b o k n, w.cell? ⟨b, o, none⟩ = some (.int k n) → w'.heap[b]? = w.heap[b]? :=
  fun b o k n hc => hf b ((nil_box h1).1 o k n hc) ((nil_box h2).1 o k n hc)
theorem far_sl (h1 : w.heap[B1]? = some (.cells #[.nilFunc, .slice none 0 0] 77 f1)) (h2 : w.heap[B2]? = some (.cells #[.nilFunc, .slice none 0 0] 77 f2)) (hf : ∀ b, b ≠ B1 → b ≠ B2 → w'.heap[b]? = w.heap[b]?) : ∀ b a n c, w.cell? ⟨b, 0, none⟩ = some (.slice a n c) → w'.heap[b]? = w.heap[b]? :=
  fun b a n c hc => hf b ((nil_box h1).2 a n c hc) ((nil_box h2).2 a n c hc)
theorem TMem.kept {L : Int} {a : Option Addr} {js : List Int} {ca : Nat} {dir tp : Int} {row : List Pst} {ar : Option Addr} {cr rb wb lb : Nat} {aq : Option Addr} (h : TMem L a js ca dir tp row ar cr rb wb lb aq w) (h1 : w.heap[B1]? = some (.cells #[.nilFunc, .slice none 0 0] 77 f1)) (h2 : w.heap[B2]? = some (.cells #[.nilFunc, .slice none 0 0] 77 f2)) (hf : ∀ b, b ≠ B1 → b ≠ B2 → w'.heap[b]? = w.heap[b]?) : TMem L a js ca dir tp row ar cr rb wb lb aq w' := by
  obtain ⟨g1, g2, g3, g4, g5, g6, g7⟩ := h
  have hi := far_int (w' := w') h1 h2 hf
  have tr : ∀ b o v, w'.heap[b]? = w.heap[b]? → w.cell? ⟨b, o, none⟩ = some v → w'.cell? ⟨b, o, none⟩ = some v := fun b o v hb hc => (World.cell?_of_block (w := w) (w' := w') (a := ⟨b, o, none⟩) hb).trans hc
  exact ⟨pst_far g1 hi, tr _ _ _ (far_sl (w' := w') h1 h2 hf _ _ _ _ g2) g2, tr _ _ _ (hi _ _ _ _ g3) g3, tr _ _ _ (hi _ _ _ _ g3) g4, tr _ _ _ (hi _ _ _ _ g5) g5, tr _ _ _ (hi _ _ _ _ g5) g6, ints_farC g7 hi⟩
theorem WMem.kept {L : Int} {ae : Option Addr} {q : List Edc} {cq : Nat} {h tp dir : Int} {eb hb wb : Nat} {aq : Option Addr} (g : WMem L ae q cq h tp dir eb hb wb aq w) (h1 : w.heap[B1]? = some (.cells #[.nilFunc, .slice none 0 0] 77 f1)) (h2 : w.heap[B2]? = some (.cells #[.nilFunc, .slice none 0 0] 77 f2)) (hf : ∀ b, b ≠ B1 → b ≠ B2 → w'.heap[b]? = w.heap[b]?) : WMem L ae q cq h tp dir eb hb wb aq w' := by
  obtain ⟨g1, g2, g3, g4, g5⟩ := g
  have hi := far_int (w' := w') h1 h2 hf
  have tr : ∀ b o v, w'.heap[b]? = w.heap[b]? → w.cell? ⟨b, o, none⟩ = some v → w'.cell? ⟨b, o, none⟩ = some v := fun b o v hb hc => (World.cell?_of_block (w := w) (w' := w') (a := ⟨b, o, none⟩) hb).trans hc
  exact ⟨tr _ _ _ (far_sl (w' := w') h1 h2 hf _ _ _ _ g1) g1, tr _ _ _ (hi _ _ _ _ g2) g2, tr _ _ _ (hi _ _ _ _ g3) g3, tr _ _ _ (hi _ _ _ _ g3) g4, ints_farC g5 hi⟩
end
/-- Gaps: topic, direction, from, to, what holds, what must hold. -/
abbrev Gp6 := Int × Int × Qud
def cl6 (s : List Gp6) : List Value := s.flatMap fun p => [.int .i64 p.1, .int .i64 p.2.1, .int .i64 p.2.2.1, .int .i64 p.2.2.2.1, .int .i64 p.2.2.2.2.1, .int .i64 p.2.2.2.2.2]
theorem cl6_app (s : List Gp6) (p : Gp6) : cl6 (s ++ [p]) = cl6 s ++ [.int .i64 p.1, .int .i64 p.2.1, .int .i64 p.2.2.1, .int .i64 p.2.2.2.1, .int .i64 p.2.2.2.2.1, .int .i64 p.2.2.2.2.2] := by simp [cl6]
theorem gapInfo : (Tryz.prog.info? 52).map (fun i => (i.zero, i.size, i.bytes)) = some (some (.agg #[.int .i64 0, .int .i64 0, .int .i64 0, .int .i64 0, .int .i64 0, .int .i64 0]), 6, 48) := by kernel_rfl
def skG (v : Int × Int) : Bool := v.1 == v.2
/-- What holds and what must hold. -/
def bothF (L : Int) (js : List Int) (l : List Sgn) (q : List Edc) (h tp dir m : Int) : Int × Int := (hldV L js l h dir tp m, mustV q h tp dir m)
/-- The gaps of a way. -/
def gapW (L : Int) (js : List Int) (l : List Sgn) (q : List Edc) (h tp dir : Int) : List Gp6 := (strV skG (bothF L js l q h tp dir) L.toNat).map fun p => (tp, dir, p)
def tpK (k : Nat) : Int := if k < 2 then 1 else 2
def drK (k : Nat) : Int := if k = 0 ∨ k = 2 then 1 else -1
/-- The gaps of the first k ways. -/
def gapK (L : Int) (js : List Int) (l : List Sgn) (q : List Edc) (h : Int) : Nat → List Gp6
  | 0 => []
  | k + 1 => gapK L js l q h k ++ gapW L js l q h (tpK k) (drK k)
theorem both_cuts {L : Int} {js : List Int} {dir h tp : Int} {l : List Sgn} {q : List Edc} {row : List Pst} (hV : lstE L js l q = 0) (hd : dirB dir = true) (ht : tp ≠ 0) (H : RowL L js dir h l row) :
    (fltV skG (prtV (ascL (cutsK L dir row row.length ++ cutsW L q q.length)) (fun m => (hldL tp (begK L dir m) row 0, mustV q h tp dir m)) (ascL (cutsK L dir row row.length ++ cutsW L q q.length)).length)).map (fun p => ((tp, dir, p) : Gp6)) = gapW L js l q h tp dir := by
  obtain ⟨hl, hL1, hL2⟩ := lst_line hV
  obtain ⟨c1, c2, c3⟩ := told_cuts hV hd H
  obtain ⟨d1, d2, d3⟩ := want_cuts hV
  obtain ⟨hn1, hn2⟩ := sgn_nums (lst_sgns hV)
  obtain ⟨e1, e2, e3⟩ := asc_ends (cuts := cutsK L dir row row.length ++ cutsW L q q.length) (List.mem_append_left _ c1) (List.mem_append_left _ c2) (fun c hc => by
    rcases List.mem_append.1 hc with hc | hc
    · exact c3 c hc
    · exact d3 c hc)
  have := parts_all (sk := skG) (f := fun m => (hldL tp (begK L dir m) row 0, mustV q h tp dir m)) (asc_pw _) e1 e2 e3 (fun k hk i h1 h2 => asc_const (f := fun m => (hldL tp (begK L dir m) row 0, mustV q h tp dir m)) (fun a m hc => by
    show (_, _) = (_, _)
    rw [told_const (t := tp) hV hd H a m (fun c hc2 => hc c (List.mem_append_left _ hc2)), want_const (q := q) (h := h) (t := tp) (d := dir) a m (fun c hc2 => hc c (List.mem_append_right _ hc2))]) k hk i h1 h2)
  rw [this]
  unfold gapW
  rw [strV_congr (g := bothF L js l q h tp dir) _ (fun i hi => ?_)]
  show (_, _) = bothF L js l q h tp dir i
  unfold bothF
  rw [show hldL tp (begK L dir i) row 0 = hldV L js l h dir tp i from hld_ins hn2 ht (beg_bd (by omega) hL2 (by omega) (by omega)).2 H]
theorem flt_snoc {P : List Qud} {k : Nat} (hk : k < P.length) : fltV skG (P.take (k + 1)) = if (gtV P k).2.2.1 = (gtV P k).2.2.2 then fltV skG (P.take k) else fltV skG (P.take k) ++ [gtV P k] := by
  have e : gtV P k = P[k] := by unfold gtV; simp [hk]
  rw [List.take_add_one, List.getElem?_eq_getElem hk, Option.toList_some, fltV_snoc, e]
  by_cases h : P[k].2.2.1 = P[k].2.2.2
  · rw [if_pos h, if_pos (by unfold skG; simp [h]), List.append_nil]
  · rw [if_neg h, if_neg (by unfold skG; simpa using h)]
theorem fltV_len (P : List Qud) : (fltV skG P).length ≤ P.length := List.length_filter_le _ _
/-- Gaps in memory. -/
def gg6 (l : List Gp6) (i : Nat) : Gp6 := l.getD i (0, 0, 0, 0, 0, 0)
def GapS (w : World) (a : Option Addr) (l : List Gp6) : Prop :=
  l.length ≤ 9223372036854775807 ∧ ∃ blk off, (l ≠ [] → a = some ⟨blk, off, none⟩) ∧ ∀ i, i < l.length → w.cell? ⟨blk, off + i * 6, none⟩ = some (.int .i64 (gg6 l i).1) ∧ w.cell? ⟨blk, off + i * 6 + 1, none⟩ = some (.int .i64 (gg6 l i).2.1) ∧ w.cell? ⟨blk, off + i * 6 + 2, none⟩ = some (.int .i64 (gg6 l i).2.2.1) ∧ w.cell? ⟨blk, off + i * 6 + 3, none⟩ = some (.int .i64 (gg6 l i).2.2.2.1) ∧ w.cell? ⟨blk, off + i * 6 + 4, none⟩ = some (.int .i64 (gg6 l i).2.2.2.2.1) ∧ w.cell? ⟨blk, off + i * 6 + 5, none⟩ = some (.int .i64 (gg6 l i).2.2.2.2.2)
theorem GapS.below {w w' : World} {a : Option Addr} {l : List Gp6} (h : GapS w a l) (hb : Below w.heap.size w w') : GapS w' a l := by
  obtain ⟨h0, blk, off, h2, h3⟩ := h
  exact ⟨h0, blk, off, h2, fun i hi => by
    obtain ⟨c0, c1, c2, c3, c4, c5⟩ := h3 i hi
    exact ⟨cell_below c0 hb, cell_below c1 hb, cell_below c2 hb, cell_below c3 hb, cell_below c4 hb, cell_below c5 hb⟩⟩
theorem cl6_len (s : List Gp6) : (cl6 s).length = s.length * 6 := by
  induction s with
  | nil => rfl
  | cons p s ih => unfold cl6 at *; rw [List.flatMap_cons, List.length_append, ih]; simp; omega
theorem cl6_c : ∀ (s : List Gp6) (i : Nat), i < s.length → (cl6 s)[i * 6]? = some (.int .i64 (gg6 s i).1) ∧ (cl6 s)[i * 6 + 1]? = some (.int .i64 (gg6 s i).2.1) ∧ (cl6 s)[i * 6 + 2]? = some (.int .i64 (gg6 s i).2.2.1) ∧ (cl6 s)[i * 6 + 3]? = some (.int .i64 (gg6 s i).2.2.2.1) ∧ (cl6 s)[i * 6 + 4]? = some (.int .i64 (gg6 s i).2.2.2.2.1) ∧ (cl6 s)[i * 6 + 5]? = some (.int .i64 (gg6 s i).2.2.2.2.2)
  | [], i, hi => by simp at hi
  | p :: s, 0, hi => by simp [cl6, gg6]
  | p :: s, i + 1, hi => by
    have ih := cl6_c s i (by simpa using hi)
    have e : ∀ c, c < 6 → (cl6 (p :: s))[(i + 1) * 6 + c]? = (cl6 s)[i * 6 + c]? := fun c hc => by
      unfold cl6
      rw [List.flatMap_cons, List.getElem?_append_right (by simp; omega), show (i + 1) * 6 + c - [Value.int .i64 p.1, .int .i64 p.2.1, .int .i64 p.2.2.1, .int .i64 p.2.2.2.1, .int .i64 p.2.2.2.2.1, .int .i64 p.2.2.2.2.2].length = i * 6 + c from by simp; omega]
    have g : gg6 (p :: s) (i + 1) = gg6 s i := rfl
    rw [g]
    exact ⟨(e 0 (by omega)).trans ih.1, (e 1 (by omega)).trans ih.2.1, (e 2 (by omega)).trans ih.2.2.1, (e 3 (by omega)).trans ih.2.2.2.1, (e 4 (by omega)).trans ih.2.2.2.2.1, (e 5 (by omega)).trans ih.2.2.2.2.2⟩
theorem gap_own {w : World} {base c : Nat} {a : Option Addr} {s : List Gp6} (h : w.ownsRow base 52 6 (.slice a s.length c) s.length (cl6 s)) (hn : s.length ≤ 9223372036854775807) : GapS w a s := by
  rcases h.2 with ⟨h1, h2⟩ | ⟨g2, c2, cur, h1, _⟩
  · have hs := List.eq_nil_of_length_eq_zero h2
    subst hs
    exact ⟨hn, 0, 0, fun h => absurd rfl h, fun i hi => absurd hi (Nat.not_lt_zero _)⟩
  · obtain ⟨rfl, rfl⟩ : a = some ⟨g2, 0, none⟩ ∧ c = c2 := by simpa using h1
    refine ⟨hn, g2, 0, fun _ => rfl, fun i hi => ?_⟩
    have hh := cl6_c s i hi
    rw [Nat.zero_add]
    refine ⟨?_, ?_, ?_, ?_, ?_, ?_⟩
    · rw [World.ownsRow.cellAt h (i * 6) (by omega)]; exact hh.1
    · rw [World.ownsRow.cellAt h (i * 6 + 1) (by omega)]; exact hh.2.1
    · rw [World.ownsRow.cellAt h (i * 6 + 2) (by omega)]; exact hh.2.2.1
    · rw [World.ownsRow.cellAt h (i * 6 + 3) (by omega)]; exact hh.2.2.2.1
    · rw [World.ownsRow.cellAt h (i * 6 + 4) (by omega)]; exact hh.2.2.2.2.1
    · rw [World.ownsRow.cellAt h (i * 6 + 5) (by omega)]; exact hh.2.2.2.2.2
theorem gap_nil (w : World) : GapS w none [] := ⟨by simp, 0, 0, fun h => absurd rfl h, fun i hi => absurd hi (Nat.not_lt_zero _)⟩
/-- Gaps with an error. -/
def GapA (M : List Gp6) (E : Int) (w : World) (e : Ending) (w' : World) : Prop := ∃ b c, e = .returned (.tuple #[.slice b M.length c, .int .i64 E]) ∧ GapS w' b M ∧ Below w.heap.size w w'
end Go.Proofs.YtlpdjinhkmgbgaaGreatDoor

namespace Go.Proofs.YtlpdjinhkmgbgaaGreatDoor
set_option linter.unusedVariables false
set_option linter.unusedSimpArgs false
open Go.RowKit Go.ChangeShapes Go.WideShapes Go.ChangeAt

section
variable {P : Program} {W : World}
theorem laid_hereU {name : String} {d : DataW Unit} {rest : List (String × DataW Unit)} {g : Nat} {t : TypeId} (hg : P.globalNamed name = some g) (hty : (P.globals[g]?).map (·.type) = some t)
    (h : laidMet P ((name, d) :: rest) W) : ∃ cs fuel p, W.var? P name = some cs ∧ DataW.trod (fun _ => ()) P W 0 (fun _ => true) false fuel t cs.toList = some (d, p) := by
  obtain ⟨ps, ⟨g', t', cs, fuel, p, q, hg', ht', hvar, hd, _, _⟩, _⟩ := h
  obtain rfl := Option.some.inj (hg.symm.trans hg')
  obtain rfl := Option.some.inj (hty.symm.trans ht')
  exact ⟨cs, fuel, p, hvar, hd⟩
theorem laid_memU {name : String} {d : DataW Unit} {g : Nat} {t : TypeId} (hg : P.globalNamed name = some g) (hty : (P.globals[g]?).map (·.type) = some t) :
    ∀ {l : List (String × DataW Unit)}, laidMet P l W → (name, d) ∈ l → ∃ cs fuel p, W.var? P name = some cs ∧ DataW.trod (fun _ => ()) P W 0 (fun _ => true) false fuel t cs.toList = some (d, p)
  | [], _, hm => by cases hm
  | x :: r, h, hm => by
    rcases List.mem_cons.1 hm with rfl | hm
    · exact laid_hereU hg hty h
    · exact laid_memU hg hty h.tail hm
theorem take_oneU {l : List Value} {a : Nat} {v : Value} (h : (l.drop a).take 1 = [v]) : l[a]? = some v := by
  have h0 : ((l.drop a).take 1)[0]? = some v := by rw [h]; rfl
  simpa using h0
theorem take_partU {l : List Value} {a b c : Nat} {v : Value} (hc : c < b) (h : ((((l.drop a).take b)).drop c).take 1 = [v]) : l[a + c]? = some v := by
  have h0 : ((((l.drop a).take b).drop c).take 1)[0]? = some v := by rw [h]; rfl
  simp [hc] at h0
  exact h0
variable {H : Type} {enc : TypeId × Value → H} {base : Nat} {sp : Nat → Bool} {held : Bool} {fuel : Nat}
theorem pairs_of_trodU {t e : TypeId} {n : Nat} {f0 f1 : Field} {k : IntKind} {cs : List Value} {p : List MemPlace} {ks : List (Int × Int)} (ht : P.underlying t = some (.array n e)) (he : P.underlying e = some (.struct #[f0, f1])) (hce : P.cellsOf e = 2) (hn : ks.length = n)
    (o0 : f0.offset = 0) (o1 : f1.offset = 1) (c0 : P.cellsOf f0.type = 1) (c1 : P.cellsOf f1.type = 1)
    (t0 : P.underlying f0.type = some (.int k)) (t1 : P.underlying f1.type = some (.int k))
    (h : DataW.trod enc P W base sp held fuel t cs = some (.agg (ks.map fun x => .agg [.lit (.int k x.1), .lit (.int k x.2)]), p)) (i : Nat) (hi : i < ks.length) :
    cs[i * 2]? = some (.int k ks[i].1) ∧ cs[i * 2 + 1]? = some (.int k ks[i].2) := by
  obtain ⟨xs, m, _, ex, _, hl, hel⟩ := DataW.trod_array ht h
  have hE := hel i (by omega)
  rw [hce, List.getElem?_eq_getElem (by omega)] at hE
  have e3 := (DataW.agg.inj (Prod.mk.inj ex).1).symm
  have e4 := congrArg (·[i]?) e3
  simp only [List.getElem?_map, List.getElem?_eq_getElem (by omega : i < xs.length), List.getElem?_eq_getElem hi, Option.map_some, Option.some.injEq] at e4
  obtain ⟨ys, n', _, ey, _, hyl, hf⟩ := DataW.trod_struct he hE
  have g0 := hf 0 f0 rfl
  have g1 := hf 1 f1 rfl
  rw [o0, c0] at g0
  rw [o1, c1] at g1
  match ys, hyl with
  | [y0, y1], _ =>
    simp only [List.getElem?_cons_zero, List.getElem?_cons_succ] at g0 g1
    obtain ⟨z, a0, b0, _⟩ := DataW.trod_int t0 g0
    obtain ⟨z1, a1, b1, _⟩ := DataW.trod_int t1 g1
    rw [ey] at e4
    subst b0 b1
    simp only [List.map_cons, List.map_nil, DataW.agg.injEq, List.cons.injEq, DataW.lit.injEq, Lit.int.injEq, and_true, true_and] at e4
    obtain ⟨q0, q1⟩ := e4
    have r0 := take_partU (by decide) a0
    have r1 := take_partU (by decide) a1
    rw [q0] at r0
    rw [q1] at r1
    exact ⟨r0, r1⟩
theorem low_leU (h : W.ShapedOpen P) (hg : P.globals.size < P.low) : P.low ≤ W.heap.size := by
  obtain ⟨o, _, ho, _⟩ := h.2 (P.low - 1) (by omega) (by show P.low - 1 < P.low; omega)
  have : P.low - 1 < W.heap.size := by
    apply Nat.lt_of_not_le
    intro hle
    rw [Array.getElem?_eq_none hle] at ho
    cases ho
  omega
end
theorem gWays : Tryz.prog.globalNamed "blazon/rule.ways" = some 0 := by kernel_rfl
theorem yWays : (Tryz.prog.globals[0]?).map (·.type) = some 74 := by kernel_rfl
theorem cWay : Tryz.prog.cellsOf 73 = 2 := by kernel_rfl
theorem cIntU : Tryz.prog.cellsOf 3 = 1 := by kernel_rfl
theorem lowPU : (decide (0 < Tryz.prog.low)) = true := by kernel_rfl
def wRows : List (Int × Int) := [(1, 1), (1, -1), (2, 1), (2, -1)]
theorem tabs_ofU {W : World} {l : List (String × DataW Unit)} (h : laidMet Tryz.prog l W) (hsh : W.ShapedOpen Tryz.prog)
    (m0 : ("blazon/rule.ways", Rows.laid_blazon_rule_ways) ∈ l) : WayTab W := by
  have hlow : 0 < W.heap.size := by
    have h1 := of_decide_eq_true lowPU
    have h2 := low_leU hsh (of_decide_eq_true (by kernel_rfl))
    omega
  obtain ⟨cs0, f0, p0, v0, d0⟩ := laid_memU gWays yWays h m0
  have hp := pairs_of_trodU (ks := wRows) Tryz.underlying74 Tryz.underlying73 cWay rfl rfl rfl cIntU cIntU Tryz.underlying3 Tryz.underlying3 d0
  have e0 := hp 0 (by decide)
  have e1 := hp 1 (by decide)
  have e2 := hp 2 (by decide)
  have e3 := hp 3 (by decide)
  simp only [Array.getElem?_toList] at e0 e1 e2 e3
  refine ⟨hlow, ?_, ?_, ?_, ?_, ?_, ?_, ?_, ?_⟩ <;> rw [World.var?_cell gWays v0]
  · exact e0.1
  · exact e0.2
  · exact e1.1
  · exact e1.2
  · exact e2.1
  · exact e2.2
  · exact e3.1
  · exact e3.2
end Go.Proofs.YtlpdjinhkmgbgaaGreatDoor

namespace Go.Proofs.YtlpdjinhkmgbgaaGreatDoor
set_option linter.unusedVariables false
set_option linter.unusedSimpArgs false
open Go.RowKit

theorem clI_app' (a b : List Int) : clI (a ++ b) = clI a ++ clI b := by unfold clI; simp
/-- The values of a function on n metres. -/
def valK (f : Int → Int) (n : Nat) : List Int := (List.range n).map fun i => f (i : Nat)
theorem valK_succ (f : Int → Int) (n : Nat) : clI (valK f (n + 1)) = clI (valK f n) ++ [.int .i64 (f n)] := by
  unfold valK; rw [List.range_succ, List.map_append, clI_app']; rfl
theorem valK_len (f : Int → Int) (n : Nat) : (valK f n).length = n := by unfold valK; simp
theorem valK_get (f : Int → Int) {n i : Nat} (h : i < n) : gi (valK f n) i = f i := by
  unfold gi valK; rw [List.getD_eq_getElem?_getD, List.getElem?_map, List.getElem?_range h]; rfl
theorem hS_bd {L : Int} {js : List Int} {dir t k : Int} : ∀ (r : List Sgn) (v : Int), (∀ s, s ∈ r → 0 ≤ s.v ∧ s.v ≤ 100000) → 0 ≤ v ∧ v ≤ 100000 → 0 ≤ hS L js dir t k r v ∧ hS L js dir t k r v ≤ 100000
  | [], v, _, hv => hv
  | s :: r, v, h, hv => by
    rw [hS]
    split
    · exact hv
    · refine hS_bd r _ (fun x hx => h x (by simp [hx])) ?_
      have := h s (by simp)
      unfold stpS strK
      split
      · omega
      · split
        · split
          · omega
          · split <;> omega
        · exact hv
theorem hldV_bd {L : Int} {js : List Int} {l : List Sgn} {q : List Edc} (hV : lstE L js l q = 0) (h dir t m : Int) : 0 ≤ hldV L js l h dir t m ∧ hldV L js l h dir t m ≤ 100000 := by
  refine hS_bd _ 0 (fun s hs => ?_) (by omega)
  obtain ⟨j, hj, e⟩ := insR_mem hs
  rw [← e]
  exact ((lst_good hV).2.2.1 j hj).2
theorem mustK_bd {q : List Edc} {h t d m : Int} (hb : ∀ j, j < q.length → 0 ≤ (ge q j).v ∧ (ge q j).v ≤ 100000) : ∀ n, n ≤ q.length → 0 ≤ (mustK q h t d m n).2 ∧ (mustK q h t d m n).2 ≤ 100000
  | 0, _ => by simp [mustK]
  | n + 1, hn => by
    rw [mustK]
    split
    · exact hb n (by omega)
    · exact mustK_bd hb n (by omega)
theorem edc_v {L : Int} {x : Edc} (h : edcB L x = true) : 0 ≤ x.v ∧ x.v ≤ 100000 := by
  unfold edcB edV at h
  simp only [Bool.and_eq_true, Bool.or_eq_true, decide_eq_true_eq, beq_iff_eq] at h
  rcases h.1.1.1.1.1 with h1 | h1
  · have := btw_ge h1.2; omega
  · omega
theorem mustV_bd {L : Int} {js : List Int} {l : List Sgn} {q : List Edc} (hV : lstE L js l q = 0) (h t d m : Int) : 0 ≤ mustV q h t d m ∧ mustV q h t d m ≤ 100000 :=
  mustK_bd (fun j hj => edc_v (edc_in (lst_edcs hV) j hj)) q.length (Nat.le_refl _)
/-- Values come back. -/
def ValA (f : Int → Int) (n : Nat) (w : World) (e : Ending) (w' : World) : Prop := ∃ b c, e = .returned (.slice b n c) ∧ IntsS w' b (valK f n) ∧ Below w.heap.size w w'
/-- Values come back, in a block of their own. -/
def ValO (f : Int → Int) (n : Nat) (w : World) (e : Ending) (w' : World) : Prop := ∃ b c, e = .returned (.slice b n c) ∧ IntsS w' b (valK f n) ∧ (∀ x, b = some x → w.heap.size ≤ x.block) ∧ Below w.heap.size w w'
set_option maxRecDepth 100000 in
set_option maxHeartbeats 2000000 in
theorem refAllO_r (N : Nat) (a : Option Addr) (js : List Int) (ca : Nat) (aa : Option Addr) (l : List Sgn) (cl : Nat) (h dir tp : Int) (hV : lstE N js l [] = 0) (h2 : topB tp = true) (w : World) (hI : IntsS w a js) (hA : SgnS w aa l) :
    Calls Tryz.prog 36 #[.agg #[.int .i64 N, .slice a js.length ca], .slice aa l.length cl, .int .i64 h, .int .i64 dir, .int .i64 tp] w (ValO (fun m => hldV N js l h dir tp m) N w) := by
  obtain ⟨hLb, hJ, hC, hn⟩ := lst_good hV
  obtain ⟨g1, g2, g3, g4⟩ := ins_good hV dir h
  have HR := Lib.hid (fun W (hW : Below w.heap.size w W) => show Calls Tryz.prog 80 #[.agg #[.int .i64 N, .slice a js.length ca], .slice aa l.length cl, .int .i64 h, .int .i64 dir] W (RrR (insR N dir h l l.length) W) from refRow_r N a js.length ca aa l cl h dir hLb.1 hLb.2 (fun j hj => (hC j hj).1) hn W (hA.below hW))
  have HBg0 := Lib.hid (fun m W (hm : -1000000 ≤ m ∧ m ≤ 1000000) => refBeginning_r N a js.length ca dir m hLb.1 hLb.2 hm.1 hm.2 W)
  have HHo0 := Lib.hid (fun b c k W (hk : -1000000 ≤ k ∧ k ≤ 1000000) (hW : Below w.heap.size w W) hS9 => refHolding_r N a js ca b (insR N dir h l l.length) c dir tp k hLb.1 hLb.2 hJ g3 g1 g2 g4 (top_or h2) hk.1 hk.2 W (hI.below hW) hS9)
  have HVal : Hid (∀ m, hS N js dir tp (begK N dir m) (insR N dir h l l.length) 0 = hldV N js l h dir tp m) := Lib.hid fun m => rfl
  have HBk : Hid (∀ m : Int, 0 ≤ m → m < N → 0 ≤ begK N dir m ∧ begK N dir m < N) := Lib.hid fun m h1 h2 => beg_bd hLb.1 hLb.2 h1 h2
  have HI64 : Hid (∀ m, I64 (hldV N js l h dir tp m)) := Lib.hid fun m => by have := hldV_bd hV h dir tp m; unfold I64; omega
  obtain ⟨n0, hi, hzz0, hz1, hz2⟩ := info_parts infoInt
  have hN : N ≤ 100000 := by have := hLb.2; omega
  clear hI hA hV h2 hJ hC hLb hn g1 g2 g3 g4
  obtain ⟨f, hf⟩ : ∃ f : Int → Int, (fun m => hldV N js l h dir tp m) = f := ⟨_, rfl⟩
  rw [hf]
  have HVal : Hid (∀ m, hS N js dir tp (begK N dir m) (insR N dir h l l.length) 0 = f m) := Lib.hid fun m => by rw [HVal.out, ← hf]
  have HI2 : Hid (∀ m, I64 (f m)) := Lib.hid fun m => by rw [← hf]; exact HI64.out m
  clear HI64
  clear hf
  generalize insR N dir h l l.length = R at *
  go_enter Tryz.func36, Tryz.ntmps36
  go_upto_region 1 with (fail)
  obtain ⟨wB, hwB⟩ : ∃ wB, w.alloc (.cells #[.int .i64 N, .slice a js.length ca] 24) = wB := ⟨_, rfl⟩
  have hb : Below w.heap.size w wB := by rw [← hwB]; exact (Below.refl _ _).alloc (Nat.le_refl _) _
  have l0 : wB.cell? ⟨w.heap.size, 0, none⟩ = some (.int .i64 N) := by rw [← hwB]; simp [go_sem]
  have l1 : wB.cell? ⟨w.heap.size, 1, none⟩ = some (.slice a js.length ca) := by rw [← hwB]; simp [go_sem]
  rw [hwB]
  clear hwB
  go_wp2_with (go_at_call 80; refine (HR.out _ hb).mono ?_; rintro e w2 ⟨b, c, rfl, hP, hb2⟩)
  have HP := Lib.hid hP
  have L0 := Lib.hid (cell_below l0 hb2)
  have L1 := Lib.hid (cell_below l1 hb2)
  have HB := Lib.hid (hb.trans (hb2.mono hb.size))
  clear hP hb2 hb l0 l1 HR
  go_loopw [12, 13] (fun v i9 wr => ∃ k : Nat, k ≤ N ∧ i9 = .int .i64 k ∧ (∃ a c, v = .slice a k c) ∧ Hid (wr.ownsRow w2.heap.size 3 1 v k (clI (valK f k))) ∧ Below w2.heap.size w2 wr) (fun _ i9 _ => N - (intOf i9).toNat)
  case atStart => exact ⟨0, Nat.zero_le _, rfl, ⟨none, 0, rfl⟩, Lib.hid ⟨rfl, .inl ⟨rfl, rfl⟩⟩, Below.refl _ _⟩
  case round =>
    obtain ⟨k, hk, rfl, ⟨av, cv, rfl⟩, HRow, hbr⟩ := hrel
    have l0 := cell_below L0.out hbr
    have l1 := cell_below L1.out hbr
    have hz0 := block_lt L0.out
    by_cases hlt : k < N
    · have hbk := HBk.out k (by omega) (by omega)
      have HBg := Lib.hid (fun W => HBg0.out k W (by omega))
      have HHo := Lib.hid (fun W (hW : Below w2.heap.size w2 W) => HHo0.out b c (begK N dir k) W (by omega) (HB.out.trans (hW.mono HB.out.size)) (HP.out.below hW))
      have hv := HVal.out k
      have HNk := Lib.hid (valK_succ f k)
      have hsr := hbr.size
      rw [hv] at HHo
      clear hv HBg0 HHo0 HVal HBk HI2
      generalize begK N dir k = bk at *
      obtain ⟨V, hVv⟩ : ∃ V, f k = V := ⟨_, rfl⟩
      rw [hVv] at HHo HNk
      clear hVv
      go_wp2_with fail
      refine wp_region_held_drew (S := fun w' => Below w2.heap.size wr w') (by kernel_rfl) ((Below.refl _ _).drew) (fun hHeld => ?_)
      refine takeU (i := 0) (some 25) (.slice av k cv) (by kernel_rfl) (by kernel_rfl) (by kernel_rfl) (by kernel_rfl) (by kernel_rfl) (fun _ => by kernel_rfl) (fun _ _ _ h => h) hHeld ?_
      refine wpAnyH_take (i := 1) (oi := { dst := some 26, op := Go.Op.load 24 (Go.Operand.tmp 5), type := 24, pos := "ref.go:206", after := #[], guard := none }) (v := .agg #[.int .i64 N, .slice a js.length ca]) rfl (by kernel_rfl) (by kernel_rfl) (by kernel_rfl) (fun _ _ _ h => h) (.inl ⟨by kernel_rfl, fun w9 h9 => by
        clear hHeld
        have d0 := (h9.cell (p := ⟨w.heap.size, 0, none⟩) hz0).trans l0
        have d1 := (h9.cell (p := ⟨w.heap.size, 1, none⟩) hz0).trans l1
        clear h9
        go_simp⟩) hHeld ?_
      refine takeU (i := 2) (some 27) (.slice b R.length c) (by kernel_rfl) (by kernel_rfl) (by kernel_rfl) (by kernel_rfl) (by kernel_rfl) (fun _ => by kernel_rfl) (fun _ _ _ h => h) hHeld ?_
      refine takeU (i := 3) (some 28) (.int .i64 dir) (by kernel_rfl) (by kernel_rfl) (by kernel_rfl) (by kernel_rfl) (by kernel_rfl) (fun _ => by kernel_rfl) (fun _ _ _ h => h) hHeld ?_
      refine takeU (i := 4) (some 29) (.int .i64 tp) (by kernel_rfl) (by kernel_rfl) (by kernel_rfl) (by kernel_rfl) (by kernel_rfl) (fun _ => by kernel_rfl) (fun _ _ _ h => h) hHeld ?_
      refine wpAnyH_take (i := 5) (oi := { dst := some 30, op := Go.Op.load 24 (Go.Operand.tmp 5), type := 24, pos := "ref.go:206", after := #[], guard := none }) (v := .agg #[.int .i64 N, .slice a js.length ca]) rfl (by kernel_rfl) (by kernel_rfl) (by kernel_rfl) (fun _ _ _ h => h) (.inl ⟨by kernel_rfl, fun w9 h9 => by
        clear hHeld
        have d0 := (h9.cell (p := ⟨w.heap.size, 0, none⟩) hz0).trans l0
        have d1 := (h9.cell (p := ⟨w.heap.size, 1, none⟩) hz0).trans l1
        clear h9
        go_simp⟩) hHeld ?_
      refine takeU (i := 6) (some 31) (.int .i64 dir) (by kernel_rfl) (by kernel_rfl) (by kernel_rfl) (by kernel_rfl) (by kernel_rfl) (fun _ => by kernel_rfl) (fun _ _ _ h => h) hHeld ?_
      refine takeU (i := 7) (some 32) (.int .i64 k) (by kernel_rfl) (by kernel_rfl) (by kernel_rfl) (by kernel_rfl) (by kernel_rfl) (fun _ => by kernel_rfl) (fun _ _ _ h => h) hHeld ?_
      try simp only [Act.put, List.setIfInBounds_toArray, List.set_cons_zero, List.set_cons_succ]
      refine wpAnyH_ready (rs := [8]) (by kernel_rfl) (by simp) ?_
      refine AllReadyH.cons (o := { dst := some 33, op := Go.Op.call { callee := Go.Callee.value (Go.Operand.func 41), args := #[Go.Operand.tmp 30, Go.Operand.tmp 31, Go.Operand.tmp 32], argTypes := #[24, 3, 3] }, type := 3, pos := "ref.go:206", after := #[{ on := 5, ground := Go.Ground.data }, { on := 6, ground := Go.Ground.data }, { on := 7, ground := Go.Ground.data }], guard := none }) rfl (fun K hK => ?_) AllReadyH.nil
      go_simp
      go_at_call 41
      refine (HBg.out _).mono ?_
      rintro e w89 ⟨rfl, hb89⟩
      have hP8 := ((Below.refl wr.heap.size wr).drew).trans (hb89.mono ((Below.refl wr.heap.size wr).drew).size)
      refine hK.out _ _ (hHeld.trans (hb89.mono (Nat.le_trans hsr hHeld.size))) (fun hHeld => ?_)
      clear hK K hb89
      try simp only [Act.put, List.setIfInBounds_toArray, List.set_cons_zero, List.set_cons_succ]
      try simp only [Act.put, List.setIfInBounds_toArray, List.set_cons_zero, List.set_cons_succ]
      refine wpAnyH_ready (rs := [9]) (by kernel_rfl) (by simp) ?_
      refine AllReadyH.cons (o := { dst := some 34, op := Go.Op.call { callee := Go.Callee.value (Go.Operand.func 81), args := #[Go.Operand.tmp 26, Go.Operand.tmp 27, Go.Operand.tmp 28, Go.Operand.tmp 29, Go.Operand.tmp 33], argTypes := #[24, 25, 3, 3, 3] }, type := 3, pos := "ref.go:206", after := #[{ on := 1, ground := Go.Ground.data }, { on := 2, ground := Go.Ground.data }, { on := 3, ground := Go.Ground.data }, { on := 4, ground := Go.Ground.data }, { on := 8, ground := Go.Ground.data }, { on := 8, ground := Go.Ground.chain }], guard := none }) rfl (fun K hK => ?_) AllReadyH.nil
      go_simp
      go_at_call 81
      refine (HHo.out _ (hbr.trans hHeld)).mono ?_
      rintro e w99 ⟨rfl, hb99⟩
      have hP9 := (hP8).trans (hb99.mono (hP8).size)
      refine hK.out _ _ (hHeld.trans (hb99.mono (Nat.le_trans hsr hHeld.size))) (fun hHeld => ?_)
      clear hK K hb99
      try simp only [Act.put, List.setIfInBounds_toArray, List.set_cons_zero, List.set_cons_succ]
      try simp only [Act.put, List.setIfInBounds_toArray, List.set_cons_zero, List.set_cons_succ]
      refine wpAnyH_ready (rs := [10]) (by kernel_rfl) (by simp) ?_
      refine AllReadyH.cons (o := { dst := some 35, op := Go.Op.buildSlice 22 1 #[(0, Go.Operand.tmp 34)], type := 22, pos := "ref.go:206", after := #[{ on := 9, ground := Go.Ground.data }], guard := none }) rfl (fun K hK => ?_) AllReadyH.nil
      have hH0 := hHeld
      go_simp
      refine hK.out _ _ (hHeld.alloc (Nat.le_trans hsr hHeld.size) _) (fun hHeld => ?_)
      clear hK K
      refine wpAnyH_ready (rs := [11]) (by kernel_rfl) (by simp) ?_
      refine AllReadyH.cons (o := { dst := some 36, op := Go.Op.call { callee := Go.Callee.builtin Go.Builtin.append, args := #[Go.Operand.tmp 25, Go.Operand.tmp 35], argTypes := #[22, 22] }, type := 22, pos := "ref.go:206", after := #[{ on := 0, ground := Go.Ground.data }, { on := 10, ground := Go.Ground.data }, { on := 9, ground := Go.Ground.chain }], guard := none }) rfl (fun K hK => ?_) AllReadyH.nil
      have hOW0 := Lib.hid (owns_belowI HRow.out ((hP9).alloc (hP9).size (.cells #[.int .i64 V] 3)))
      refine step_append_lies _ (by rfl) _ _ _ (by rfl) w2.heap.size 3 n0 _ 1 8 Tryz.underlying22 hi hzz0 hz1 hz2 rfl (by decide) (.slice av k cv) k _ (by rfl) hOW0.out ⟨w99.heap.size, 0, none⟩ 1 1 [.int .i64 V] (by rfl) (by rfl) (World.news_of_block (w := w99.alloc (.cells #[.int .i64 V] 3)) (B := w99.heap.size) (cs := #[.int .i64 V]) (t := 3) (fr := (0, 0)) (heap_alloc_new _ _)) (by simp [Value.oneCell']) (by decide) (by unfold maxLen; omega) (by omega) (by simp; have := hH0.size; omega) _ rfl ?_
      intro g6 c6 w6 hown6 hgrow6 hat6 hlt6
      refine hK.out _ _ (hHeld.grown hgrow6 (by simp; have := hH0.size; omega) (fun z hz => owns_blockI hOW0.out hz)) (fun hHeld => ?_)
      have HO6 := Lib.hid hown6
      clear hK K hgrow6 hat6 hlt6 hown6 hOW0 hH0
      try simp only [Act.put, List.setIfInBounds_toArray, List.set_cons_zero, List.set_cons_succ]
      refine takeU (i := 12) (some 12) (.slice (some ⟨g6, 0, none⟩) (k + 1) c6) (by kernel_rfl) (by kernel_rfl) (by kernel_rfl) (by kernel_rfl) (by kernel_rfl) (fun _ => by kernel_rfl) (fun _ _ _ h => h) hHeld ?_
      refine wpAnyH_done (by kernel_rfl) ?_ _
      try simp only [Act.put, List.setIfInBounds_toArray, List.set_cons_zero, List.set_cons_succ]
      go_wp2_with fail
      go_roundw
      case rel => exact ⟨k + 1, by omega, by go_num, ⟨_, c6, rfl⟩, Lib.hid (by rw [HNk.out]; exact HO6.out), hbr.trans hHeld⟩
      case measure => simp [intOf]; omega
    · obtain rfl : k = N := by omega
      have HEnd : Hid (ValO f k w (.returned (.slice av k cv)) wr) := Lib.hid ⟨av, cv, rfl, by
        have h1 := HRow.out
        have h2 : IntsS wr av (valK f k) := ints_own (by rw [valK_len]; exact h1) (by rw [valK_len]; omega) (fun j hj => by
          rw [valK_len] at hj
          show I64 (gi _ _)
          rw [valK_get f hj]; exact HI2.out _)
        exact h2, fun x hx => Nat.le_trans HB.out.size (own_lt HRow.out x hx).2.1, HB.out.trans (hbr.mono HB.out.size)⟩
      clear HRow HBg0 HHo0 HVal HBk HI2 HP
      go_wp2_with fail
      go_ret
      exact HEnd.out
set_option maxRecDepth 100000 in
set_option maxHeartbeats 2000000 in
theorem refMustsO_r (N : Nat) (a : Option Addr) (js : List Int) (ca : Nat) (ae : Option Addr) (q : List Edc) (cq : Nat) (h dir tp : Int) (hV : lstE N js [] q = 0) (w : World) (hE : EdS w ae q) :
    Calls Tryz.prog 37 #[.agg #[.int .i64 N, .slice a js.length ca], .slice ae q.length cq, .int .i64 h, .int .i64 dir, .int .i64 tp] w (ValO (fun m => mustV q h tp dir m) N w) := by
  have HM0 := Lib.hid (fun m W (hW : Below w.heap.size w W) => refMust_r ae q cq h tp dir m W (hE.below hW))
  have HI64 : Hid (∀ m, I64 (mustV q h tp dir m)) := Lib.hid fun m => by have := mustV_bd hV h tp dir m; unfold I64; omega
  obtain ⟨n0, hi, hzz0, hz1, hz2⟩ := info_parts infoInt
  have hN : N ≤ 100000 := by have := lst_line hV; omega
  clear hE hV
  obtain ⟨f, hf⟩ : ∃ f : Int → Int, (fun m => mustV q h tp dir m) = f := ⟨_, rfl⟩
  have HVal : Hid (∀ m, mustV q h tp dir m = f m) := Lib.hid fun m => by rw [← hf]
  have HI2 : Hid (∀ m, I64 (f m)) := Lib.hid fun m => by rw [← hf]; exact HI64.out m
  clear HI64
  rw [hf]
  clear hf
  go_enter Tryz.func37, Tryz.ntmps37
  go_wp2_with fail
  obtain ⟨w2, hwB⟩ : ∃ wB, w.alloc (.cells #[.int .i64 N, .slice a js.length ca] 24) = wB := ⟨_, rfl⟩
  have hb : Below w.heap.size w w2 := by rw [← hwB]; exact (Below.refl _ _).alloc (Nat.le_refl _) _
  have l0 : w2.cell? ⟨w.heap.size, 0, none⟩ = some (.int .i64 N) := by rw [← hwB]; simp [go_sem]
  rw [hwB]
  clear hwB
  have L0 := Lib.hid l0
  have HB := Lib.hid hb
  clear l0 hb
  go_wp2_with fail
  go_loopw [11, 12] (fun v i9 wr => ∃ k : Nat, k ≤ N ∧ i9 = .int .i64 k ∧ (∃ a c, v = .slice a k c) ∧ Hid (wr.ownsRow w2.heap.size 3 1 v k (clI (valK f k))) ∧ Below w2.heap.size w2 wr) (fun _ i9 _ => N - (intOf i9).toNat)
  case atStart => exact ⟨0, Nat.zero_le _, rfl, ⟨none, 0, rfl⟩, Lib.hid ⟨rfl, .inl ⟨rfl, rfl⟩⟩, Below.refl _ _⟩
  case round =>
    obtain ⟨k, hk, rfl, ⟨av, cv, rfl⟩, HRow, hbr⟩ := hrel
    have l0 := cell_below L0.out hbr
    by_cases hlt : k < N
    · have HM := Lib.hid (HM0.out k wr (HB.out.trans (hbr.mono HB.out.size)))
      rw [HVal.out] at HM
      have HNk := Lib.hid (valK_succ f k)
      have hsr := hbr.size
      clear HM0 HVal HI2
      obtain ⟨V, hVv⟩ : ∃ V, f k = V := ⟨_, rfl⟩
      rw [hVv] at HM HNk
      clear hVv
      go_upto_region 5 with (fail)
      go_wp2_with (first | (go_at_call 40; refine HM.out.mono ?_; rintro e w3 ⟨rfl, hb3⟩; have hOW0 := Lib.hid ((owns_belowI HRow.out hb3).alloc (.cells #[.int .i64 V] 3)); have hbq : Below w2.heap.size w2 (w3.alloc (.cells #[.int .i64 V] 3)) := (hbr.trans (hb3.mono hsr)).alloc (Nat.le_trans hsr hb3.size) _; have hs3 := hb3.size) | (at_builtin; go_loud (refine wpList_append_lies _ rfl _ _ 22 rfl w2.heap.size 3 n0 _ 1 8 Tryz.underlying22 hi hzz0 hz1 hz2 rfl (by decide) (.slice av k cv) k _ (by rfl) hOW0.out ⟨w3.heap.size, 0, none⟩ 1 1 [.int .i64 V] (by rfl) (by rfl) ?d1 ?d2 (by decide) ?d3 ?d4 ?d5 _ rfl ?_)))
      case d1 =>
        refine World.news_of_block (cs := #[.int .i64 V]) (t := 3) (fr := (0, 0)) ?_
        exact heap_alloc_new _ _
      case d2 => simp [Value.oneCell']
      case d3 => unfold maxLen; omega
      case d4 => omega
      case d5 => first | (simp; omega) | simp | omega
      intro g6 c6 w6 hown6 hgrow6 hat6 hlt6
      have hb6 : Below w2.heap.size w2 w6 := hbq.grown hgrow6 (by first | (simp; omega) | simp | omega) (fun z hz => owns_blockI hOW0.out hz)
      have HRow6 := Lib.hid hown6
      clear hown6 hOW0 hbq hgrow6 hat6 hlt6
      go_wp2_with fail
      go_roundw
      case rel => exact ⟨k + 1, by omega, by go_num, ⟨_, c6, rfl⟩, Lib.hid (by rw [HNk.out]; exact HRow6.out), hb6⟩
      case measure => simp [intOf]; omega
    · obtain rfl : k = N := by omega
      have HEnd : Hid (ValO f k w (.returned (.slice av k cv)) wr) := Lib.hid ⟨av, cv, rfl, by
        have h1 := HRow.out
        have h2 : IntsS wr av (valK f k) := ints_own (by rw [valK_len]; exact h1) (by rw [valK_len]; omega) (fun j hj => by
          rw [valK_len] at hj
          show I64 (gi _ _)
          rw [valK_get f hj]; exact HI2.out _)
        exact h2, fun x hx => Nat.le_trans HB.out.size (own_lt HRow.out x hx).2.1, HB.out.trans (hbr.mono HB.out.size)⟩
      clear HRow HM0 HVal HI2
      go_wp2_with fail
      go_ret
      exact HEnd.out
theorem val_of {f : Int → Int} {n : Nat} {w : World} {e : Ending} {w' : World} (h : ValO f n w e w') : ValA f n w e w' := by
  obtain ⟨b, c, h1, h2, -, h3⟩ := h
  exact ⟨b, c, h1, h2, h3⟩
theorem refAll_r (N : Nat) (a : Option Addr) (js : List Int) (ca : Nat) (aa : Option Addr) (l : List Sgn) (cl : Nat) (h dir tp : Int) (hV : lstE N js l [] = 0) (h2 : topB tp = true) (w : World) (hI : IntsS w a js) (hA : SgnS w aa l) :
    Calls Tryz.prog 36 #[.agg #[.int .i64 N, .slice a js.length ca], .slice aa l.length cl, .int .i64 h, .int .i64 dir, .int .i64 tp] w (ValA (fun m => hldV N js l h dir tp m) N w) := (refAllO_r N a js ca aa l cl h dir tp hV h2 w hI hA).mono fun e w' h => val_of h
theorem refMusts_r (N : Nat) (a : Option Addr) (js : List Int) (ca : Nat) (ae : Option Addr) (q : List Edc) (cq : Nat) (h dir tp : Int) (hV : lstE N js [] q = 0) (w : World) (hE : EdS w ae q) :
    Calls Tryz.prog 37 #[.agg #[.int .i64 N, .slice a js.length ca], .slice ae q.length cq, .int .i64 h, .int .i64 dir, .int .i64 tp] w (ValA (fun m => mustV q h tp dir m) N w) := (refMustsO_r N a js ca ae q cq h dir tp hV w hE).mono fun e w' h => val_of h
end Go.Proofs.YtlpdjinhkmgbgaaGreatDoor

namespace Go.Proofs
open Go.Shelf
def Tryz.laysKeysI_ren : Go.Shelf.Ren := ⟨fun | 7 => 96 | 10 => 124 | n => n, fun | 23 => 146 | 26 => 3 | 3 => 4 | 28 => 130 | 0 => 0 | 27 => 129 | 33 => 36 | 4 => 4 | n => n, fun | n => n⟩
theorem Tryz.laysKeysI : Go.Proofs.SlLaysZI.n7 Tryz.prog Tryz.laysKeysI_ren := {
  mixed := by kernel_rfl
  f7 := ⟨Tryz.f96.name, by decide, Tryz.func96.trans (congrArg some (by kernel_rfl))⟩
  f10 := ⟨Tryz.f124.name, by decide, Tryz.func124.trans (congrArg some (by kernel_rfl))⟩
  t0 := Tryz.underlying0
  a0 := Tryz.isAgg0
  z0 := Tryz.sizeOf0
  v0 := Tryz.zeroValue0
  t4 := Tryz.underlying4
  a4 := Tryz.isAgg4
  z4 := Tryz.sizeOf4
  v4 := Tryz.zeroValue4
  t23 := Tryz.underlying146
  a23 := Tryz.isAgg146
  z23 := Tryz.sizeOf146
  v23 := Tryz.zeroValue146
  t26 := Tryz.underlying3
  a26 := Tryz.isAgg3
  z26 := Tryz.sizeOf3
  v26 := Tryz.zeroValue3
  t27 := Tryz.underlying129
  a27 := Tryz.isAgg129
  z27 := Tryz.sizeOf129
  v27 := Tryz.zeroValue129
  t28 := Tryz.underlying130
  a28 := Tryz.isAgg130
  z28 := Tryz.sizeOf130
  v28 := Tryz.zeroValue130
  t33 := Tryz.underlying36
  a33 := Tryz.isAgg36
  z33 := Tryz.sizeOf36
  v33 := Tryz.zeroValue36 }
def Tryz.laysSortedI_ren : Go.Shelf.Ren := ⟨fun | 6 => 74 | 8 => 113 | 9 => 107 | 11 => 141 | 13 => 99 | 12 => 139 | 23 => 135 | 24 => 136 | 14 => 156 | 15 => 157 | 16 => 158 | 17 => 159 | 18 => 160 | 19 => 161 | 20 => 162 | 21 => 163 | 22 => 164 | 25 => 169 | 26 => 152 | 27 => 153 | 28 => 170 | 29 => 171 | 30 => 137 | 31 => 173 | n => n, fun | 26 => 3 | 28 => 130 | 24 => 22 | 0 => 0 | 3 => 3 | 37 => 56 | 48 => 178 | 50 => 180 | 4 => 4 | 40 => 171 | 39 => 170 | 45 => 175 | 5 => 5 | 9 => 9 | 51 => 191 | 55 => 195 | 57 => 204 | 58 => 205 | 33 => 36 | n => n, fun | n => n⟩
theorem Tryz.laysSortedI : Go.Proofs.SlLaysZI.n6 Tryz.prog Tryz.laysSortedI_ren := {
  mixed := by kernel_rfl
  f6 := ⟨Tryz.f74.name, by decide, Tryz.func74.trans (congrArg some (by kernel_rfl))⟩
  f8 := ⟨Tryz.f113.name, by decide, Tryz.func113.trans (congrArg some (by kernel_rfl))⟩
  f11 := ⟨Tryz.f141.name, by decide, Tryz.func141.trans (congrArg some (by kernel_rfl))⟩
  t0 := Tryz.underlying0
  a0 := Tryz.isAgg0
  z0 := Tryz.sizeOf0
  v0 := Tryz.zeroValue0
  t24 := Tryz.underlying22
  a24 := Tryz.isAgg22
  z24 := Tryz.sizeOf22
  v24 := Tryz.zeroValue22
  t26 := Tryz.underlying3
  a26 := Tryz.isAgg3
  z26 := Tryz.sizeOf3
  v26 := Tryz.zeroValue3
  t28 := Tryz.underlying130
  a28 := Tryz.isAgg130
  z28 := Tryz.sizeOf130
  v28 := Tryz.zeroValue130
  i26 := by kernel_rfl }
end Go.Proofs

namespace Go.Proofs.YtlpdjinhkmgbgaaGreatDoor
set_option linter.unusedVariables false
set_option linter.unusedSimpArgs false
open Go.Maps
open Go.RowKit

/-- Block B is a map from ints to bools with the keys S, at most n entries. -/
def SetM (P : Program) (k e : TypeId) (w : World) (B n : Nat) (S : List Int) : Prop :=
  ∃ D : DataW Unit, w.ownsMap P k (plainElem P e) B n D ∧ ∀ x : Int, has D (.int .i64 x) = true ↔ x ∈ S
section
variable {P : Program} {k e t : TypeId} {w w' : World} {B n : Nat} {S : List Int}
theorem SetM.made (P : Program) (k e : TypeId) (w : World) : SetM P k e (w.alloc (.map #[] 0)) w.heap.size 0 [] :=
  ⟨.map [], World.ownsMap_made _ _ _ _, fun x => by rw [has_eq]; simp⟩
theorem SetM.same (h : SetM P k e w B n S) (hb : w'.heap[B]? = w.heap[B]?) : SetM P k e w' B n S := by
  obtain ⟨D, ⟨es, clock, h1, h2⟩, h3⟩ := h
  exact ⟨D, ⟨es, clock, hb.trans h1, h2⟩, h3⟩
theorem SetM.lt (h : SetM P k e w B n S) : B < w.heap.size := by obtain ⟨D, h1, h2⟩ := h; exact h1.lt
theorem SetM.kept {row : Option Nat} (h : SetM P k e w B n S) (hg : w.grownBy w' row) (hne : some B ≠ row) : SetM P k e w' B n S := h.same (hg.block B h.lt hne)
theorem SetM.below {C : Nat} (h : SetM P k e w B n S) (hC : B < C) (hb : Below C w w') : SetM P k e w' B n S := h.same (hb.block B hC)
theorem SetM.alloc (h : SetM P k e w B n S) (o : Obj) : SetM P k e (w.alloc o) B n S := h.below h.lt ((Below.refl _ w).alloc (Nat.le_refl _) o)
theorem SetM.mono {n' : Nat} (h : SetM P k e w B n S) (hn : n ≤ n') : SetM P k e w B n' S := by
  obtain ⟨D, ⟨es, clock, h1, h2, h3, h4⟩, h5⟩ := h
  exact ⟨D, ⟨es, clock, h1, h2, Nat.le_trans h3 hn, h4⟩, h5⟩
/-- One key more, at a step of a region that draws its order. -/
theorem step_putS {ops : Array Oper} {o : Oper} {a : Act} {K : Act → World → Prop} {Q : Exit → Act → World → Prop} {E : Prop} (hgd : o.guard = none)
    (m x v : Operand) (hop : o.op = Op.mapUpdate t m x v)
    (hm : a.eval m = .map (some B)) (h : SetM P k e w B n S) (hk : P.underlying k = some (.int .i64)) (ht : P.underlying t = some (.map k e)) (he : P.underlying e = some .bool)
    (y : Int) (b : Bool) (hx : a.eval x = .int .i64 y) (hv : a.eval v = .bool b) (hy : (Lit.int .i64 y).wf = true) (hn : n < maxLen)
    (hK : ∀ w', SetM P k e w' B (n + 1) (S ++ [y]) → w.grownBy w' (some B) → K (a.put o.dst undef) w') :
    if Region.wanted o (yielded ops a.tmps) = true then Oper.wp P o a w K Q else E := by
  have hw : Region.wanted o (yielded ops a.tmps) = true := by simp [Region.wanted, hgd]
  rw [if_pos hw]
  obtain ⟨D, h1, h2⟩ := h
  obtain ⟨w', hrun, r1, r2⟩ := h1.update (int_keyed hk) ht hn (keyOf_int_mk hk hy) (plainElem_bool (H := Unit) he b)
  unfold Oper.wp
  simp [execOp, hop, hm, hx, hv, hrun, Result.andThen]
  have htd := (h1.tidy (int_keyed hk)).isMap
  refine hK w' ⟨_, r1, fun z => ?_⟩ r2
  rw [List.mem_append, List.mem_singleton]
  by_cases e1 : z = y
  · subst e1
    rw [has_put_same htd ((int_keyed hk).key (keyOf_int_mk hk hy))]
    simp
  · rw [has_put_other (fun e2 => e1 (by cases e2; rfl)), h2]
    simp [e1]
/-- A key less. -/
theorem wpList_delS {ops : Array Oper} {rest : List Oper} {o : Oper} {a : Act} {Q : Exit → Act → World → Prop} (hg : o.guard = none) (m x : Operand) (hop : o.op = Op.call { callee := Callee.builtin Builtin.delete, args := #[m, x], argTypes := #[t, k] })
    (hm : a.eval m = .map (some B)) (h : SetM P k e w B n S) (hk : P.underlying k = some (.int .i64)) (ht : P.underlying t = some (.map k e)) (y : Int) (hx : a.eval x = .int .i64 y) (hy : (Lit.int .i64 y).wf = true)
    (hK : ∀ w', SetM P k e w' B n (S.filter (fun z => z != y)) → w.mapTurned w' B → wpList P ops Q rest (a.put o.dst (.tuple #[])) w') :
    wpList P ops Q (o :: rest) a w := by
  obtain ⟨D, h1, h2⟩ := h
  refine wpList_delete_own w hg m x t k hop e (int_keyed hk) ht (plainElem P e) B n D hm h1 (.int .i64 y) _ hx (keyOf_int_mk hk hy) fun w' r1 r2 => hK w' ⟨_, r1, fun z => ?_⟩ r2
  rw [List.mem_filter]
  by_cases e1 : z = y
  · subst e1
    rw [has_del_same]
    simp
  · rw [has_del_other (fun e2 => e1 (by cases e2; rfl)), h2]
    simp [e1]
/-- The keys of such a map. -/
theorem keys_set {D : DataW Unit} (h1 : w.ownsMap P k (plainElem P e) B n D) (h2 : ∀ x : Int, has D (.int .i64 x) = true ↔ x ∈ S) (hk : P.underlying k = some (.int .i64)) : (intKeys D).Nodup ∧ (∀ x, x ∈ intKeys D ↔ x ∈ S) ∧ Maps.size D ≤ n := by
  have hsize : Maps.size D ≤ n := by
    obtain ⟨es0, clock, _, _, hs, hD0⟩ := h1
    rw [hD0]
    show List.length (List.foldr DataW.insert [] _) ≤ n
    rw [length_sorted]
    simpa using hs
  obtain ⟨es, hD, hpw, -⟩ := h1.entries (int_keyed hk)
  obtain ⟨es', hD', hko⟩ := h1.keysOf
  obtain rfl : es = es' := by rw [hD] at hD'; simpa using hD'
  subst hD
  have hki : ∀ p ∈ es, ∃ x, p.1 = .int .i64 x := fun p hp => by
    obtain ⟨v, hv⟩ := hko p hp
    obtain ⟨x, _, hx, _⟩ := Maps.keyOf_i64 hk hv
    exact ⟨x, hx⟩
  refine ⟨?_, fun x => ?_, hsize⟩
  · show (es.map fun p => Go.intOf p.1).Nodup
    refine List.pairwise_map.2 (hpw.imp_of_mem fun {p q} hp' hq' hne e9 => hne ?_)
    obtain ⟨a, ha⟩ := hki p hp'
    obtain ⟨b, hb⟩ := hki q hq'
    rw [ha, hb] at e9 ⊢
    exact congrArg _ e9
  · rw [← h2 x, has_eq, List.any_eq_true]
    show x ∈ es.map (fun p => Go.intOf p.1) ↔ _
    rw [List.mem_map]
    constructor
    · rintro ⟨p, hp', rfl⟩
      obtain ⟨a, ha⟩ := hki p hp'
      exact ⟨p, hp', by rw [ha]; simp [Lit.sameKey, Go.intOf]⟩
    · rintro ⟨p, hp', hs⟩
      obtain ⟨a, ha⟩ := hki p hp'
      rw [ha] at hs
      exact ⟨p, hp', by rw [ha]; simpa [Lit.sameKey, Go.intOf] using hs⟩
end
end Go.Proofs.YtlpdjinhkmgbgaaGreatDoor
