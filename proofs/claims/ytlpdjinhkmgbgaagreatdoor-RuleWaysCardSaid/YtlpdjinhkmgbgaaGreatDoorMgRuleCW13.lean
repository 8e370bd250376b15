/-
  The program's Compare. By an AI agent.; From the rows' lists to the table of ways (package rule). By an AI agent.
-/
import Derived.Test.YtlpdjinhkmgbgaaGreatDoorMgRuleCW10
import Derived.Test.YtlpdjinhkmgbgaaGreatDoorMgRuleCW11
import Derived.Test.YtlpdjinhkmgbgaaGreatDoorMgRuleCW12
import Derived.Deep.RegionHeld3
import Derived.Deep.DeepCutAuto
import Derived.BigQuiet
import Derived.BigRegion
import Derived.StillTailTactics
import Derived.Deep.AppendLies
import Derived.Test.YtlpdjinhkmgbgaaGreatDoorRows
import Derived.ProofKit
import Derived.OpenShut
import Derived.LaidMore
import Derived.Lib.LaidTab
import Derived.Stop.LaidErr
import Derived.ChangeAgain
import Derived.Stop.Joined

namespace Go.Proofs.YtlpdjinhkmgbgaaGreatDoor
set_option linter.unusedVariables false
set_option linter.unusedSimpArgs false
open Go.RowKit

/-- The four ways as the program's text lays them. -/
def WayTab (w : World) : Prop := 0 < w.heap.size ∧ w.cell? ⟨0, 0, none⟩ = some (.int .i64 1) ∧ w.cell? ⟨0, 1, none⟩ = some (.int .i64 1) ∧ w.cell? ⟨0, 2, none⟩ = some (.int .i64 1) ∧ w.cell? ⟨0, 3, none⟩ = some (.int .i64 (-1)) ∧ w.cell? ⟨0, 4, none⟩ = some (.int .i64 2) ∧ w.cell? ⟨0, 5, none⟩ = some (.int .i64 1) ∧ w.cell? ⟨0, 6, none⟩ = some (.int .i64 2) ∧ w.cell? ⟨0, 7, none⟩ = some (.int .i64 (-1))
theorem WayTab.below {w w' : World} (h : WayTab w) (hb : Below w.heap.size w w') : WayTab w' := by
  obtain ⟨hz, c0, c1, c2, c3, c4, c5, c6, c7⟩ := h
  exact ⟨Nat.lt_of_lt_of_le hz hb.size, cell_below c0 hb, cell_below c1 hb, cell_below c2 hb, cell_below c3 hb, cell_below c4 hb, cell_below c5 hb, cell_below c6 hb, cell_below c7 hb⟩
/-- What the closure of told reads. -/
def TMem (L : Int) (a : Option Addr) (js : List Int) (ca : Nat) (dir tp : Int) (row : List Pst) (ar : Option Addr) (cr rb wb lb : Nat) (aq : Option Addr) (w : World) : Prop :=
  PstS w ar row ∧ w.cell? ⟨rb, 0, none⟩ = some (.slice ar row.length cr) ∧ w.cell? ⟨wb, 0, none⟩ = some (.int .i64 tp) ∧ w.cell? ⟨wb, 1, none⟩ = some (.int .i64 dir) ∧ w.cell? ⟨lb, 0, none⟩ = some (.int .i64 L) ∧ w.cell? ⟨lb, 1, none⟩ = some (.slice a js.length ca) ∧ IntsS w aq (cutsK L dir row row.length)
theorem TMem.below {L : Int} {a : Option Addr} {js : List Int} {ca : Nat} {dir tp : Int} {row : List Pst} {ar : Option Addr} {cr rb wb lb : Nat} {aq : Option Addr} {w w' : World} (h : TMem L a js ca dir tp row ar cr rb wb lb aq w) (hb : Below w.heap.size w w') : TMem L a js ca dir tp row ar cr rb wb lb aq w' := by
  obtain ⟨h1, h2, h3, h4, h5, h6, h7⟩ := h
  exact ⟨h1.below hb, cell_below h2 hb, cell_below h3 hb, cell_below h4 hb, cell_below h5 hb, cell_below h6 hb, h7.below hb⟩
/-- What the closure of wanted reads. -/
def WMem (L : Int) (ae : Option Addr) (q : List Edc) (cq : Nat) (h tp dir : Int) (eb hb wb : Nat) (aq : Option Addr) (w : World) : Prop :=
  w.cell? ⟨eb, 0, none⟩ = some (.slice ae q.length cq) ∧ w.cell? ⟨hb, 0, none⟩ = some (.int .i64 h) ∧ w.cell? ⟨wb, 0, none⟩ = some (.int .i64 tp) ∧ w.cell? ⟨wb, 1, none⟩ = some (.int .i64 dir) ∧ IntsS w aq (cutsW L q q.length)
theorem WMem.below {L : Int} {ae : Option Addr} {q : List Edc} {cq : Nat} {h tp dir : Int} {eb hb wb : Nat} {aq : Option Addr} {w w' : World} (g : WMem L ae q cq h tp dir eb hb wb aq w) (hw : Below w.heap.size w w') : WMem L ae q cq h tp dir eb hb wb aq w' := by
  obtain ⟨h1, h2, h3, h4, h5⟩ := g
  exact ⟨cell_below h1 hw, cell_below h2 hw, cell_below h3 hw, cell_below h4 hw, h5.below hw⟩
theorem ints_farC {w w' : World} {a : Option Addr} {l : List Int} (h : IntsS w a l) (hf : ∀ b o k n, w.cell? ⟨b, o, none⟩ = some (.int k n) → w'.heap[b]? = w.heap[b]?) : IntsS w' a l := by
  obtain ⟨h0, h1, blk, off, h2, h3⟩ := h
  exact ⟨h0, h1, blk, off, h2, fun i hi => (World.cell?_of_block (w := w) (w' := w') (a := ⟨blk, off + i, none⟩) (hf _ _ _ _ (h3 i hi))).trans (h3 i hi)⟩
theorem nil_box {w : World} {B b : Nat} {fr : Nat × Nat} (hB : w.heap[B]? = some (.cells #[.nilFunc, .slice none 0 0] 77 fr)) : (∀ o k n, w.cell? ⟨b, o, none⟩ = some (.int k n) → b ≠ B) ∧ (∀ a n c, w.cell? ⟨b, 0, none⟩ = some (.slice a n c) → b ≠ B) := by
  refine ⟨fun o k n hc e => ?_, fun a n c hc e => ?_⟩
  · subst e
    rw [cell_of_row w b o _ _ _ hB] at hc
    rcases o with _ | _ | o
    · simp at hc
    · simp at hc
    · simp at hc
  · subst e
    rw [cell_of_row w b 0 _ _ _ hB] at hc
    simp at hc
section
variable {w w' : World} {B1 B2 : Nat} {f1 f2 : Nat × Nat}
theorem far_int (h1 : w.heap[B1]? = some (.cells #[.nilFunc, .slice none 0 0] 77 f1)) (h2 : w.heap[B2]? = some (.cells #[.nilFunc, .slice none 0 0] 77 f2)) (hf : ∀ b, b ≠ B1 → b ≠ B2 → w'.heap[b]? = w.heap[b]?) : ∀ b o k n, w.cell? ⟨b, o, none⟩ = some (.int k n) → w'.heap[b]? = w.heap[b]? :=
  fun b o k n hc => hf b ((nil_box h1).1 o k n hc) ((nil_box h2).1 o k n hc)
theorem far_sl (h1 : w.heap[B1]? = some (.cells #[.nilFunc, .slice none 0 0] 77 f1)) (h2 : w.heap[B2]? = some (.cells #[.nilFunc, .slice none 0 0] 77 f2)) (hf : ∀ b, b ≠ B1 → b ≠ B2 → w'.heap[b]? = w.heap[b]?) : ∀ b a n c, w.cell? ⟨b, 0, none⟩ = some (.slice a n c) → w'.heap[b]? = w.heap[b]? :=
  fun b a n c hc => hf b ((nil_box h1).2 a n c hc) ((nil_box h2).2 a n c hc)
theorem TMem.kept {L : Int} {a : Option Addr} {js : List Int} {ca : Nat} {dir tp : Int} {row : List Pst} {ar : Option Addr} {cr rb wb lb : Nat} {aq : Option Addr} (h : TMem L a js ca dir tp row ar cr rb wb lb aq w) (h1 : w.heap[B1]? = some (.cells #[.nilFunc, .slice none 0 0] 77 f1)) (h2 : w.heap[B2]? = some (.cells #[.nilFunc, .slice none 0 0] 77 f2)) (hf : ∀ b, b ≠ B1 → b ≠ B2 → w'.heap[b]? = w.heap[b]?) : TMem L a js ca dir tp row ar cr rb wb lb aq w' := by
  obtain ⟨g1, g2, g3, g4, g5, g6, g7⟩ := h
  have hi := far_int (w' := w') h1 h2 hf
  have tr : ∀ b o v, w'.heap[b]? = w.heap[b]? → w.cell? ⟨b, o, none⟩ = some v → w'.cell? ⟨b, o, none⟩ = some v := fun b o v hb hc => (World.cell?_of_block (w := w) (w' := w') (a := ⟨b, o, none⟩) hb).trans hc
  exact ⟨pst_far g1 hi, tr _ _ _ (far_sl (w' := w') h1 h2 hf _ _ _ _ g2) g2, tr _ _ _ (hi _ _ _ _ g3) g3, tr _ _ _ (hi _ _ _ _ g3) g4, tr _ _ _ (hi _ _ _ _ g5) g5, tr _ _ _ (hi _ _ _ _ g5) g6, ints_farC g7 hi⟩
theorem WMem.kept {L : Int} {ae : Option Addr} {q : List Edc} {cq : Nat} {h tp dir : Int} {eb hb wb : Nat} {aq : Option Addr} (g : WMem L ae q cq h tp dir eb hb wb aq w) (h1 : w.heap[B1]? = some (.cells #[.nilFunc, .slice none 0 0] 77 f1)) (h2 : w.heap[B2]? = some (.cells #[.nilFunc, .slice none 0 0] 77 f2)) (hf : ∀ b, b ≠ B1 → b ≠ B2 → w'.heap[b]? = w.heap[b]?) : WMem L ae q cq h tp dir eb hb wb aq w' := by
  obtain ⟨g1, g2, g3, g4, g5⟩ := g
  have hi := far_int (w' := w') h1 h2 hf
  have tr : ∀ b o v, w'.heap[b]? = w.heap[b]? → w.cell? ⟨b, o, none⟩ = some v → w'.cell? ⟨b, o, none⟩ = some v := fun b o v hb hc => (World.cell?_of_block (w := w) (w' := w') (a := ⟨b, o, none⟩) hb).trans hc
  exact ⟨tr _ _ _ (far_sl (w' := w') h1 h2 hf _ _ _ _ g1) g1, tr _ _ _ (hi _ _ _ _ g2) g2, tr _ _ _ (hi _ _ _ _ g3) g3, tr _ _ _ (hi _ _ _ _ g3) g4, ints_farC g5 hi⟩
end
/-- Gaps: topic, direction, from, to, what holds, what must hold. -/
abbrev Gp6 := Int × Int × Qud
def cl6 (s : List Gp6) : List Value := s.flatMap fun p => [.int .i64 p.1, .int .i64 p.2.1, .int .i64 p.2.2.1, .int .i64 p.2.2.2.1, .int .i64 p.2.2.2.2.1, .int .i64 p.2.2.2.2.2]
theorem cl6_app (s : List Gp6) (p : Gp6) : cl6 (s ++ [p]) = cl6 s ++ [.int .i64 p.1, .int .i64 p.2.1, .int .i64 p.2.2.1, .int .i64 p.2.2.2.1, .int .i64 p.2.2.2.2.1, .int .i64 p.2.2.2.2.2] := by simp [cl6]
theorem gapInfo : (Tryz.prog.info? 52).map (fun i => (i.zero, i.size, i.bytes)) = some (some (.agg #[.int .i64 0, .int .i64 0, .int .i64 0, .int .i64 0, .int .i64 0, .int .i64 0]), 6, 48) := by kernel_rfl
def skG (v : Int × Int) : Bool := v.1 == v.2
/-- What holds and what must hold. -/
def bothF (L : Int) (js : List Int) (l : List Sgn) (q : List Edc) (h tp dir m : Int) : Int × Int := (hldV L js l h dir tp m, mustV q h tp dir m)
/-- The gaps of a way. -/
def gapW (L : Int) (js : List Int) (l : List Sgn) (q : List Edc) (h tp dir : Int) : List Gp6 := (strV skG (bothF L js l q h tp dir) L.toNat).map fun p => (tp, dir, p)
def tpK (k : Nat) : Int := if k < 2 then 1 else 2
def drK (k : Nat) : Int := if k = 0 ∨ k = 2 then 1 else -1
/-- The gaps of the first k ways. -/
def gapK (L : Int) (js : List Int) (l : List Sgn) (q : List Edc) (h : Int) : Nat → List Gp6
  | 0 => []
  | k + 1 => gapK L js l q h k ++ gapW L js l q h (tpK k) (drK k)
theorem both_cuts {L : Int} {js : List Int} {dir h tp : Int} {l : List Sgn} {q : List Edc} {row : List Pst} (hV : lstE L js l q = 0) (hd : dirB dir = true) (ht : tp ≠ 0) (H : RowL L js dir h l row) :
    (fltV skG (prtV (ascL (cutsK L dir row row.length ++ cutsW L q q.length)) (fun m => (hldL tp (begK L dir m) row 0, mustV q h tp dir m)) (ascL (cutsK L dir row row.length ++ cutsW L q q.length)).length)).map (fun p => ((tp, dir, p) : Gp6)) = gapW L js l q h tp dir := by
  obtain ⟨hl, hL1, hL2⟩ := lst_line hV
  obtain ⟨c1, c2, c3⟩ := told_cuts hV hd H
  obtain ⟨d1, d2, d3⟩ := want_cuts hV
  obtain ⟨hn1, hn2⟩ := sgn_nums (lst_sgns hV)
  obtain ⟨e1, e2, e3⟩ := asc_ends (cuts := cutsK L dir row row.length ++ cutsW L q q.length) (List.mem_append_left _ c1) (List.mem_append_left _ c2) (fun c hc => by
    rcases List.mem_append.1 hc with hc | hc
    · exact c3 c hc
    · exact d3 c hc)
  have := parts_all (sk := skG) (f := fun m => (hldL tp (begK L dir m) row 0, mustV q h tp dir m)) (asc_pw _) e1 e2 e3 (fun k hk i h1 h2 => asc_const (f := fun m => (hldL tp (begK L dir m) row 0, mustV q h tp dir m)) (fun a m hc => by
    show (_, _) = (_, _)
    rw [told_const (t := tp) hV hd H a m (fun c hc2 => hc c (List.mem_append_left _ hc2)), want_const (q := q) (h := h) (t := tp) (d := dir) a m (fun c hc2 => hc c (List.mem_append_right _ hc2))]) k hk i h1 h2)
  rw [this]
  unfold gapW
  rw [strV_congr (g := bothF L js l q h tp dir) _ (fun i hi => ?_)]
  show (_, _) = bothF L js l q h tp dir i
  unfold bothF
  rw [show hldL tp (begK L dir i) row 0 = hldV L js l h dir tp i from hld_ins hn2 ht (beg_bd (by omega) hL2 (by omega) (by omega)).2 H]
theorem flt_snoc {P : List Qud} {k : Nat} (hk : k < P.length) : fltV skG (P.take (k + 1)) = if (gtV P k).2.2.1 = (gtV P k).2.2.2 then fltV skG (P.take k) else fltV skG (P.take k) ++ [gtV P k] := by
  have e : gtV P k = P[k] := by unfold gtV; simp [hk]
  rw [List.take_add_one, List.getElem?_eq_getElem hk, Option.toList_some, fltV_snoc, e]
  by_cases h : P[k].2.2.1 = P[k].2.2.2
  · rw [if_pos h, if_pos (by unfold skG; simp [h]), List.append_nil]
  · rw [if_neg h, if_neg (by unfold skG; simpa using h)]
theorem fltV_len (P : List Qud) : (fltV skG P).length ≤ P.length := List.length_filter_le _ _
/-- Gaps in memory. -/
def gg6 (l : List Gp6) (i : Nat) : Gp6 := l.getD i (0, 0, 0, 0, 0, 0)
def GapS (w : World) (a : Option Addr) (l : List Gp6) : Prop :=
  l.length ≤ 9223372036854775807 ∧ ∃ blk off, (l ≠ [] → a = some ⟨blk, off, none⟩) ∧ ∀ i, i < l.length → w.cell? ⟨blk, off + i * 6, none⟩ = some (.int .i64 (gg6 l i).1) ∧ w.cell? ⟨blk, off + i * 6 + 1, none⟩ = some (.int .i64 (gg6 l i).2.1) ∧ w.cell? ⟨blk, off + i * 6 + 2, none⟩ = some (.int .i64 (gg6 l i).2.2.1) ∧ w.cell? ⟨blk, off + i * 6 + 3, none⟩ = some (.int .i64 (gg6 l i).2.2.2.1) ∧ w.cell? ⟨blk, off + i * 6 + 4, none⟩ = some (.int .i64 (gg6 l i).2.2.2.2.1) ∧ w.cell? ⟨blk, off + i * 6 + 5, none⟩ = some (.int .i64 (gg6 l i).2.2.2.2.2)
theorem GapS.below {w w' : World} {a : Option Addr} {l : List Gp6} (h : GapS w a l) (hb : Below w.heap.size w w') : GapS w' a l := by
  obtain ⟨h0, blk, off, h2, h3⟩ := h
  exact ⟨h0, blk, off, h2, fun i hi => by
    obtain ⟨c0, c1, c2, c3, c4, c5⟩ := h3 i hi
    exact ⟨cell_below c0 hb, cell_below c1 hb, cell_below c2 hb, cell_below c3 hb, cell_below c4 hb, cell_below c5 hb⟩⟩
theorem cl6_len (s : List Gp6) : (cl6 s).length = s.length * 6 := by
  induction s with
  | nil => rfl
  | cons p s ih => unfold cl6 at *; rw [List.flatMap_cons, List.length_append, ih]; simp; omega
theorem cl6_c : ∀ (s : List Gp6) (i : Nat), i < s.length → (cl6 s)[i * 6]? = some (.int .i64 (gg6 s i).1) ∧ (cl6 s)[i * 6 + 1]? = some (.int .i64 (gg6 s i).2.1) ∧ (cl6 s)[i * 6 + 2]? = some (.int .i64 (gg6 s i).2.2.1) ∧ (cl6 s)[i * 6 + 3]? = some (.int .i64 (gg6 s i).2.2.2.1) ∧ (cl6 s)[i * 6 + 4]? = some (.int .i64 (gg6 s i).2.2.2.2.1) ∧ (cl6 s)[i * 6 + 5]? = some (.int .i64 (gg6 s i).2.2.2.2.2)
  | [], i, hi => by simp at hi
  | p :: s, 0, hi => by simp [cl6, gg6]
  | p :: s, i + 1, hi => by
    have ih := cl6_c s i (by simpa using hi)
    have e : ∀ c, c < 6 → (cl6 (p :: s))[(i + 1) * 6 + c]? = (cl6 s)[i * 6 + c]? := fun c hc => by
      unfold cl6
      rw [List.flatMap_cons, List.getElem?_append_right (by simp; omega), show (i + 1) * 6 + c - [Value.int .i64 p.1, .int .i64 p.2.1, .int .i64 p.2.2.1, .int .i64 p.2.2.2.1, .int .i64 p.2.2.2.2.1, .int .i64 p.2.2.2.2.2].length = i * 6 + c from by simp; omega]
    have g : gg6 (p :: s) (i + 1) = gg6 s i := rfl
    rw [g]
    exact ⟨(e 0 (by omega)).trans ih.1, (e 1 (by omega)).trans ih.2.1, (e 2 (by omega)).trans ih.2.2.1, (e 3 (by omega)).trans ih.2.2.2.1, (e 4 (by omega)).trans ih.2.2.2.2.1, (e 5 (by omega)).trans ih.2.2.2.2.2⟩
theorem gap_own {w : World} {base c : Nat} {a : Option Addr} {s : List Gp6} (h : w.ownsRow base 52 6 (.slice a s.length c) s.length (cl6 s)) (hn : s.length ≤ 9223372036854775807) : GapS w a s := by
  rcases h.2 with ⟨h1, h2⟩ | ⟨g2, c2, cur, h1, _⟩
  · have hs := List.eq_nil_of_length_eq_zero h2
    subst hs
    exact ⟨hn, 0, 0, fun h => absurd rfl h, fun i hi => absurd hi (Nat.not_lt_zero _)⟩
  · obtain ⟨rfl, rfl⟩ : a = some ⟨g2, 0, none⟩ ∧ c = c2 := by simpa using h1
    refine ⟨hn, g2, 0, fun _ => rfl, fun i hi => ?_⟩
    have hh := cl6_c s i hi
    rw [Nat.zero_add]
    refine ⟨?_, ?_, ?_, ?_, ?_, ?_⟩
    · rw [World.ownsRow.cellAt h (i * 6) (by omega)]; exact hh.1
    · rw [World.ownsRow.cellAt h (i * 6 + 1) (by omega)]; exact hh.2.1
    · rw [World.ownsRow.cellAt h (i * 6 + 2) (by omega)]; exact hh.2.2.1
    · rw [World.ownsRow.cellAt h (i * 6 + 3) (by omega)]; exact hh.2.2.2.1
    · rw [World.ownsRow.cellAt h (i * 6 + 4) (by omega)]; exact hh.2.2.2.2.1
    · rw [World.ownsRow.cellAt h (i * 6 + 5) (by omega)]; exact hh.2.2.2.2.2
theorem gap_nil (w : World) : GapS w none [] := ⟨by simp, 0, 0, fun h => absurd rfl h, fun i hi => absurd hi (Nat.not_lt_zero _)⟩
/-- Gaps with an error. -/
def GapA (M : List Gp6) (E : Int) (w : World) (e : Ending) (w' : World) : Prop := ∃ b c, e = .returned (.tuple #[.slice b M.length c, .int .i64 E]) ∧ GapS w' b M ∧ Below w.heap.size w w'
end Go.Proofs.YtlpdjinhkmgbgaaGreatDoor

namespace Go.Proofs.YtlpdjinhkmgbgaaGreatDoor
set_option linter.unusedVariables false
set_option linter.unusedSimpArgs false
open Go.RowKit Go.ChangeShapes Go.WideShapes Go.ChangeAt

section
variable {P : Program} {W : World}
theorem laid_hereU {name : String} {d : DataW Unit} {rest : List (String × DataW Unit)} {g : Nat} {t : TypeId} (hg : P.globalNamed name = some g) (hty : (P.globals[g]?).map (·.type) = some t)
    (h : laidMet P ((name, d) :: rest) W) : ∃ cs fuel p, W.var? P name = some cs ∧ DataW.trod (fun _ => ()) P W 0 (fun _ => true) false fuel t cs.toList = some (d, p) := by
  obtain ⟨ps, ⟨g', t', cs, fuel, p, q, hg', ht', hvar, hd, _, _⟩, _⟩ := h
  obtain rfl := Option.some.inj (hg.symm.trans hg')
  obtain rfl := Option.some.inj (hty.symm.trans ht')
  exact ⟨cs, fuel, p, hvar, hd⟩
theorem laid_memU {name : String} {d : DataW Unit} {g : Nat} {t : TypeId} (hg : P.globalNamed name = some g) (hty : (P.globals[g]?).map (·.type) = some t) :
    ∀ {l : List (String × DataW Unit)}, laidMet P l W → (name, d) ∈ l → ∃ cs fuel p, W.var? P name = some cs ∧ DataW.trod (fun _ => ()) P W 0 (fun _ => true) false fuel t cs.toList = some (d, p)
  | [], _, hm => by cases hm
  | x :: r, h, hm => by
    rcases List.mem_cons.1 hm with rfl | hm
    · exact laid_hereU hg hty h
    · exact laid_memU hg hty h.tail hm
theorem take_oneU {l : List Value} {a : Nat} {v : Value} (h : (l.drop a).take 1 = [v]) : l[a]? = some v := by
  have h0 : ((l.drop a).take 1)[0]? = some v := by rw [h]; rfl
  simpa using h0
theorem take_partU {l : List Value} {a b c : Nat} {v : Value} (hc : c < b) (h : ((((l.drop a).take b)).drop c).take 1 = [v]) : l[a + c]? = some v := by
  have h0 : ((((l.drop a).take b).drop c).take 1)[0]? = some v := by rw [h]; rfl
  simp [hc] at h0
  exact h0
variable {H : Type} {enc : TypeId × Value → H} {base : Nat} {sp : Nat → Bool} {held : Bool} {fuel : Nat}
theorem pairs_of_trodU {t e : TypeId} {n : Nat} {f0 f1 : Field} {k : IntKind} {cs : List Value} {p : List MemPlace} {ks : List (Int × Int)} (ht : P.underlying t = some (.array n e)) (he : P.underlying e = some (.struct #[f0, f1])) (hce : P.cellsOf e = 2) (hn : ks.length = n)
    (o0 : f0.offset = 0) (o1 : f1.offset = 1) (c0 : P.cellsOf f0.type = 1) (c1 : P.cellsOf f1.type = 1)
    (t0 : P.underlying f0.type = some (.int k)) (t1 : P.underlying f1.type = some (.int k))
    (h : DataW.trod enc P W base sp held fuel t cs = some (.agg (ks.map fun x => .agg [.lit (.int k x.1), .lit (.int k x.2)]), p)) (i : Nat) (hi : i < ks.length) :
    cs[i * 2]? = some (.int k ks[i].1) ∧ cs[i * 2 + 1]? = some (.int k ks[i].2) := by
  obtain ⟨xs, m, _, ex, _, hl, hel⟩ := DataW.trod_array ht h
  have hE := hel i (by omega)
  rw [hce, List.getElem?_eq_getElem (by omega)] at hE
  have e3 := (DataW.agg.inj (Prod.mk.inj ex).1).symm
  have e4 := congrArg (·[i]?) e3
  simp only [List.getElem?_map, List.getElem?_eq_getElem (by omega : i < xs.length), List.getElem?_eq_getElem hi, Option.map_some, Option.some.injEq] at e4
  obtain ⟨ys, n', _, ey, _, hyl, hf⟩ := DataW.trod_struct he hE
  have g0 := hf 0 f0 rfl
  have g1 := hf 1 f1 rfl
  rw [o0, c0] at g0
  rw [o1, c1] at g1
  match ys, hyl with
  | [y0, y1], _ =>
    simp only [List.getElem?_cons_zero, List.getElem?_cons_succ] at g0 g1
    obtain ⟨z, a0, b0, _⟩ := DataW.trod_int t0 g0
    obtain ⟨z1, a1, b1, _⟩ := DataW.trod_int t1 g1
    rw [ey] at e4
    subst b0 b1
    simp only [List.map_cons, List.map_nil, DataW.agg.injEq, List.cons.injEq, DataW.lit.injEq, Lit.int.injEq, and_true, true_and] at e4
    obtain ⟨q0, q1⟩ := e4
    have r0 := take_partU (by decide) a0
    have r1 := take_partU (by decide) a1
    rw [q0] at r0
    rw [q1] at r1
    exact ⟨r0, r1⟩
theorem low_leU (h : W.ShapedOpen P) (hg : P.globals.size < P.low) : P.low ≤ W.heap.size := by
  obtain ⟨o, _, ho, _⟩ := h.2 (P.low - 1) (by omega) (by show P.low - 1 < P.low; omega)
  have : P.low - 1 < W.heap.size := by
    apply Nat.lt_of_not_le
    intro hle
    rw [Array.getElem?_eq_none hle] at ho
    cases ho
  omega
end
theorem gWays : Tryz.prog.globalNamed "blazon/rule.ways" = some 0 := by kernel_rfl
theorem yWays : (Tryz.prog.globals[0]?).map (·.type) = some 74 := by kernel_rfl
theorem cWay : Tryz.prog.cellsOf 73 = 2 := by kernel_rfl
theorem cIntU : Tryz.prog.cellsOf 3 = 1 := by kernel_rfl
theorem lowPU : (decide (0 < Tryz.prog.low)) = true := by kernel_rfl
def wRows : List (Int × Int) := [(1, 1), (1, -1), (2, 1), (2, -1)]
theorem tabs_ofU {W : World} {l : List (String × DataW Unit)} (h : laidMet Tryz.prog l W) (hsh : W.ShapedOpen Tryz.prog)
    (m0 : ("blazon/rule.ways", Rows.laid_blazon_rule_ways) ∈ l) : WayTab W := by
  have hlow : 0 < W.heap.size := by
    have h1 := of_decide_eq_true lowPU
    have h2 := low_leU hsh (of_decide_eq_true (by kernel_rfl))
    omega
  obtain ⟨cs0, f0, p0, v0, d0⟩ := laid_memU gWays yWays h m0
  have hp := pairs_of_trodU (ks := wRows) Tryz.underlying74 Tryz.underlying73 cWay rfl rfl rfl cIntU cIntU Tryz.underlying3 Tryz.underlying3 d0
  have e0 := hp 0 (by decide)
  have e1 := hp 1 (by decide)
  have e2 := hp 2 (by decide)
  have e3 := hp 3 (by decide)
  simp only [Array.getElem?_toList] at e0 e1 e2 e3
  refine ⟨hlow, ?_, ?_, ?_, ?_, ?_, ?_, ?_, ?_⟩ <;> rw [World.var?_cell gWays v0]
  · exact e0.1
  · exact e0.2
  · exact e1.1
  · exact e1.2
  · exact e2.1
  · exact e2.2
  · exact e3.1
  · exact e3.2
end Go.Proofs.YtlpdjinhkmgbgaaGreatDoor
