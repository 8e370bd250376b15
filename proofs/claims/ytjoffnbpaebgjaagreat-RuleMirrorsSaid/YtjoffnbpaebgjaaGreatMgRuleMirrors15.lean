/-
  Rows of signs as values: cells, append; Holds at such a row. By an AI agent.; Rows of edicts as values; rows beside a box of another type. By an AI agent.; The law's mirrored. By an AI agent.; The laws' comparison of lists that are the same. By an AI agent.
-/
import Derived.Test.YtjoffnbpaebgjaaGreatMgRuleMirrors3
import Derived.Test.YtjoffnbpaebgjaaGreatMgRuleMirrors5
import Derived.Test.YtjoffnbpaebgjaaGreatMgRuleMirrors9
import Derived.Test.YtjoffnbpaebgjaaGreatMgRuleMirrors11
import Derived.Test.YtjoffnbpaebgjaaGreatMgRuleMirrors12
import Derived.Test.YtjoffnbpaebgjaaGreatMgRuleMirrors14
import Derived.Deep.RegionHeld3
import Derived.Deep.DeepCutAuto
import Derived.BigQuiet
import Derived.BigRegion
import Derived.StillTailTactics
import Derived.Deep.AppendLies

namespace Go.Proofs.YtjoffnbpaebgjaaGreat
set_option linter.unusedVariables false
set_option linter.unusedSimpArgs false
open Go.RowKit

/-- The cells of a block that is known. -/
theorem heapc {w : World} {B : Nat} {cs : Array Value} {T : TypeId} {fr : Nat × Nat} (h : w.heap[B]? = some (.cells cs T fr)) {i : Nat} {v : Value} (hi : cs[i]? = some v) : w.cell? ⟨B, i, none⟩ = some v := (cell_of_row w B i cs T fr h).trans hi
theorem heap_lt {w : World} {B : Nat} {o : Obj} (h : w.heap[B]? = some o) : B < w.heap.size := by
  apply Nat.lt_of_not_le
  intro hle
  rw [Array.getElem?_eq_none hle] at h
  cases h
theorem heap_below {w w' : World} {B : Nat} {o : Obj} (h : w.heap[B]? = some o) (hb : Below w.heap.size w w') : w'.heap[B]? = some o := (hb.block B (heap_lt h)).trans h
/-- A block of another type is no row's. -/
theorem own_type {w : World} {B : Nat} {T T2 : TypeId} {K : Nat} {av : Option Addr} {n c m b : Nat} {xs : List Value} {cs : Array Value} {fr : Nat × Nat} (h : w.ownsRow B T K (.slice av n c) m xs) (hb : w.heap[b]? = some (.cells cs T2 fr)) (hT : T ≠ T2) : ∀ x, av = some x → x.block ≠ b := by
  intro x hx e
  rcases h.2 with ⟨h1, _⟩ | ⟨g2, c3, cur, h1, h2, h3, _⟩
  · injection h1 with h1 _ _
    rw [hx] at h1; cases h1
  · injection h1 with h1 _ _
    rw [hx] at h1
    injection h1 with h1
    subst h1
    rw [show g2 = b from e] at h3
    rw [hb] at h3
    injection h3 with h3
    injection h3 with _ h3 _
    exact hT h3.symm
theorem heap_kept {w w' : World} {av : Option Addr} {g B : Nat} {o : Obj} (hk : KpB w w' av g) (h : w.heap[B]? = some o) (hne : ∀ x, av = some x → x.block ≠ B) : w'.heap[B]? = some o ∧ g ≠ B :=
  ⟨(hk B (heap_lt h) hne).1.trans h, (hk B (heap_lt h) hne).2⟩
/-- Values of signs whose covers lie in memory. -/
def PrsL (w : World) (S : List RE) : Prop := ∀ x, x ∈ S → PairsS w x.2.1 x.1.cv
theorem PrsL.below {w w' : World} {S : List RE} (h : PrsL w S) (hb : Below w.heap.size w w') : PrsL w' S := fun x hx => (h x hx).below hb
theorem PrsL.snoc {w : World} {S : List RE} {X : RE} (h : PrsL w S) (hX : PairsS w X.2.1 X.1.cv) : PrsL w (S ++ [X]) := fun x hx => by
  rw [List.mem_append, List.mem_singleton] at hx
  rcases hx with hx | hx
  · exact h x hx
  · rw [hx]; exact hX
theorem row_sgn {w : World} {base c : Nat} {a : Option Addr} {S : List RE} (h : w.ownsRow base 58 9 (.slice a S.length c) S.length (clR S)) (hn : S.length ≤ 9223372036854775807) (hp : PrsL w S) : SgnS w a (S.map (·.1)) :=
  ownR h hn fun i hi => hp _ (by rw [getElem!_pos S i hi]; exact List.getElem_mem hi)
theorem clR_snoc (S : List RE) (X : RE) : clR (S ++ [X]) = clR S ++ encS X := by rw [clR_app]; simp [clR]
theorem map_snoc (S : List RE) (X : RE) : (S ++ [X]).map (·.1) = S.map (·.1) ++ [X.1] := by rw [List.map_append]; rfl
/-- Holds at a row of one's own. -/
theorem holds_row (L : Int) (a : Option Addr) (js : List Int) (ca : Nat) (av : Option Addr) (S : List RE) (cv : Nat) (l : List Sgn) (h dir tp m V : Int) (hV : hldV L js l h dir tp m = V) (hs : sgnsB L js l = true) (hl : S.map (·.1) = l) (h0 : btw h 0 10000000 = true) (h1 : dirB dir = true) (h2 : topB tp = true) (h3 : btw m 0 (L - 1) = true) (base : Nat) (w : World) (hI : IntsS w a js)
    (hR : w.ownsRow base 58 9 (.slice av S.length cv) S.length (clR S)) (hp : PrsL w S) : Calls Tryz.prog 18 #[.agg #[.int .i64 L, .slice a js.length ca], .slice av S.length cv, .int .i64 h, .int .i64 dir, .int .i64 tp, .int .i64 m] w (NumA V 0 w) := by
  subst hl
  have hn := ((sgns_iff L js _).1 hs).2.1
  rw [List.length_map] at hn
  have := Holds_good L a js ca av (S.map (·.1)) cv h dir tp m ((lst_iff _ _ _).2 hs) h0 h1 h2 h3 w hI (row_sgn hR (by omega) hp)
  rw [List.length_map, hV] at this
  exact this
end Go.Proofs.YtjoffnbpaebgjaaGreat

namespace Go.Proofs.YtjoffnbpaebgjaaGreat
set_option linter.unusedVariables false
set_option linter.unusedSimpArgs false
open Go.RowKit

instance : Inhabited Edc := ⟨⟨0, 0, 0, 0, 0, 0, 0, 0⟩⟩
def encE (x : Edc) : List Value := [.int .i64 x.n, .int .i64 x.tp, .int .i64 x.v, .int .i64 x.d, .int .i64 x.fr, .int .i64 x.tt, .int .i64 x.st, .int .i64 x.en]
theorem encE_len (x : Edc) : (encE x).length = 8 := rfl
def clE (s : List Edc) : List Value := s.flatMap encE
theorem clE_app (s t : List Edc) : clE (s ++ t) = clE s ++ clE t := by simp [clE]
theorem clE_len (s : List Edc) : (clE s).length = s.length * 8 := by
  induction s with
  | nil => rfl
  | cons p s ih => unfold clE at *; rw [List.flatMap_cons, List.length_append, ih, encE_len, List.length_cons]; omega
theorem clE_one (s : List Edc) : ∀ v ∈ clE s, v.oneCell' = true := by
  intro v hv
  unfold clE at hv
  rw [List.mem_flatMap] at hv
  obtain ⟨p, _, h⟩ := hv
  simp [encE] at h
  rcases h with rfl | rfl | rfl | rfl | rfl | rfl | rfl | rfl <;> rfl
theorem clE_c : ∀ (s : List Edc) (i : Nat), i < s.length → ∀ c, c < 8 → (clE s)[i * 8 + c]? = (encE s[i]!)[c]?
  | [], i, hi, c, hc => by simp at hi
  | p :: s, 0, hi, c, hc => by
    unfold clE
    rw [List.flatMap_cons, List.getElem?_append_left (by rw [encE_len]; omega), Nat.zero_mul, Nat.zero_add]; rfl
  | p :: s, i + 1, hi, c, hc => by
    have ih := clE_c s i (by simpa using hi) c hc
    unfold clE at *
    rw [List.flatMap_cons, List.getElem?_append_right (by rw [encE_len]; omega), encE_len, show (i + 1) * 8 + c - 8 = i * 8 + c by omega, ih]
    rfl
theorem clE_take : ∀ (s : List Edc) (k : Nat), (clE s).take (k * 8) = clE (s.take k)
  | s, 0 => by simp [clE]
  | [], k + 1 => by simp [clE]
  | p :: s, k + 1 => by
    have ih := clE_take s k
    unfold clE at *
    rw [List.take_succ_cons, List.flatMap_cons, List.flatMap_cons, List.take_append, List.take_of_length_le (by rw [encE_len]; omega), encE_len, show (k + 1) * 8 - 8 = k * 8 by omega, ih]
theorem clE_drop : ∀ (s : List Edc) (k : Nat), (clE s).drop (k * 8) = clE (s.drop k)
  | s, 0 => by simp [clE]
  | [], k + 1 => by simp [clE]
  | p :: s, k + 1 => by
    have ih := clE_drop s k
    unfold clE at *
    rw [List.drop_succ_cons, List.flatMap_cons, List.drop_append, List.drop_of_length_le (by rw [encE_len]; omega), encE_len, show (k + 1) * 8 - 8 = k * 8 by omega, ih]
    rfl
theorem clE_snoc (S : List Edc) (X : Edc) : clE (S ++ [X]) = clE S ++ encE X := by rw [clE_app]; simp [clE]
/-- A row of values as edicts. -/
theorem ownE {w : World} {base c : Nat} {a : Option Addr} {s : List Edc} (h : w.ownsRow base 82 8 (.slice a s.length c) s.length (clE s)) (hn : s.length ≤ 9223372036854775807) : EdS w a s := by
  have hm : ∀ i, i < s.length → ge s i = s[i]! := fun i hi => by
    rw [getElem!_pos s i hi]; unfold ge; simp [hi]
  refine ⟨hn, ?_⟩
  rcases h.2 with ⟨h1, h2⟩ | ⟨g2, c2, cur, h1, _⟩
  · exact ⟨0, 0, (fun hne => absurd (List.eq_nil_of_length_eq_zero h2) hne), fun i hi => by omega⟩
  · obtain ⟨rfl, rfl⟩ : a = some ⟨g2, 0, none⟩ ∧ c = c2 := by simpa using h1
    refine ⟨g2, 0, fun _ => rfl, fun i hi => ?_⟩
    have hc := fun j hj => (World.ownsRow.cellAt h (i * 8 + j) (by omega)).trans (clE_c s i hi j hj)
    rw [hm i hi, Nat.zero_add]
    exact ⟨hc 0 (by omega), hc 1 (by omega), hc 2 (by omega), hc 3 (by omega), hc 4 (by omega), hc 5 (by omega), hc 6 (by omega), hc 7 (by omega)⟩
/-- A store into a block of another type leaves a row. -/
theorem own_set {w : World} {B : Nat} {T T2 : TypeId} {K : Nat} {a : Option Addr} {n c m b o : Nat} {xs : List Value} {cs : Array Value} {fr : Nat × Nat} (v : Value) (h : w.ownsRow B T K (.slice a n c) m xs) (hb : w.heap[b]? = some (.cells cs T2 fr)) (hT : T ≠ T2) : (w.setCell ⟨b, o, none⟩ v).ownsRow B T K (.slice a n c) m xs := by
  have hk : KpB w (w.setCell ⟨b, o, none⟩ v) (some ⟨b, 0, none⟩) w.heap.size := fun B' hB hne => by
    have h1 : b ≠ B' := hne _ rfl
    exact ⟨heap_setCell_other _ _ _ _ (Ne.symm h1), by omega⟩
  refine (own_kept h hk fun x y hx hy e => ?_).1
  cases hx
  exact own_type h hb hT y hy e.symm
theorem apB_type {w : World} {B B2 : Nat} {T T2 : TypeId} {K K2 : Nat} {a a2 : Option Addr} {n c m n2 c2 m2 : Nat} {xs xs2 : List Value} (h : w.ownsRow B T K (.slice a n c) m xs) (h2 : w.ownsRow B2 T2 K2 (.slice a2 n2 c2) m2 xs2) (hT : T ≠ T2) : apB a a2 := by
  intro x y hx hy e
  rcases h2.2 with ⟨e1, _⟩ | ⟨g2, c3, cur, e1, _, e3, _⟩
  · injection e1 with e1 _ _
    rw [hy] at e1; cases e1
  · injection e1 with e1 _ _
    rw [hy] at e1
    injection e1 with e1
    subst e1
    exact own_type h e3 hT x hx e
theorem kp_grown {W : World} {o : Obj} {w' : World} {av : Option Addr} {n c g H : Nat} (hg : (W.alloc o).grownBy w' (Value.slice av n c).ownBlock) (hat : (Value.slice av n c).ownBlock = some g ∨ g = H) (hH : W.heap.size ≤ H) : KpB W w' av g := fun B hB hne => by
  refine ⟨(hg.block B (by simp; omega) fun e => ?_).trans (allocOld W _ hB), ?_⟩
  · cases av with
    | none => simp [Value.ownBlock] at e
    | some y => simp [Value.ownBlock] at e; exact hne y rfl e.symm
  · rcases hat with h9 | h9
    · cases av with
      | none => simp [Value.ownBlock] at h9
      | some y => simp [Value.ownBlock] at h9; rw [← h9]; exact hne y rfl
    · omega
end Go.Proofs.YtjoffnbpaebgjaaGreat

namespace Go.Proofs.YtjoffnbpaebgjaaGreat
set_option linter.unusedVariables false
set_option linter.unusedSimpArgs false
open Go.RowKit

theorem below_cellsM {B b : Nat} {a : World} (hb : B ≤ b) : ∀ (vs : List Value) (o : Nat) (w : World), Below B a w → Below B a (w.setCells b o vs)
  | [], _, _, h => h
  | v :: r, o, w, h => below_cellsM hb r (o + 1) _ (h.setCell hb v)
theorem set8 (W : World) (B : Nat) (v0 v1 v2 v3 v4 v5 v6 v7 : Value) (h : ∀ i, i < 8 → (W.cell? ⟨B, i, none⟩).isSome = true) :
    ∃ W', ((((((((W.setCell ⟨B, 0, none⟩ v0).setCell ⟨B, 1, none⟩ v1).setCell ⟨B, 2, none⟩ v2).setCell ⟨B, 3, none⟩ v3).setCell ⟨B, 4, none⟩ v4).setCell ⟨B, 5, none⟩ v5).setCell ⟨B, 6, none⟩ v6).setCell ⟨B, 7, none⟩ v7) = W' ∧
      W'.cell? ⟨B, 0, none⟩ = some v0 ∧ W'.cell? ⟨B, 1, none⟩ = some v1 ∧ W'.cell? ⟨B, 2, none⟩ = some v2 ∧ W'.cell? ⟨B, 3, none⟩ = some v3 ∧ W'.cell? ⟨B, 4, none⟩ = some v4 ∧ W'.cell? ⟨B, 5, none⟩ = some v5 ∧ W'.cell? ⟨B, 6, none⟩ = some v6 ∧ W'.cell? ⟨B, 7, none⟩ = some v7 ∧
      ∀ (C : Nat) (w : World), C ≤ B → Below C w W → Below C w W' := by
  have e : ((((((((W.setCell ⟨B, 0, none⟩ v0).setCell ⟨B, 1, none⟩ v1).setCell ⟨B, 2, none⟩ v2).setCell ⟨B, 3, none⟩ v3).setCell ⟨B, 4, none⟩ v4).setCell ⟨B, 5, none⟩ v5).setCell ⟨B, 6, none⟩ v6).setCell ⟨B, 7, none⟩ v7) = W.setCells B 0 [v0, v1, v2, v3, v4, v5, v6, v7] := rfl
  have k : ∀ j (hj : j < 8), (W.setCells B 0 [v0, v1, v2, v3, v4, v5, v6, v7]).cell? ⟨B, 0 + j, none⟩ = some ([v0, v1, v2, v3, v4, v5, v6, v7][j]'hj) := fun j hj => World.cell?_setCells_in B [v0, v1, v2, v3, v4, v5, v6, v7] 0 W (fun i hi => by rw [Nat.zero_add]; exact h i hi) j hj
  exact ⟨_, e, k 0 (by decide), k 1 (by decide), k 2 (by decide), k 3 (by decide), k 4 (by decide), k 5 (by decide), k 6 (by decide), k 7 (by decide), fun C w hC hw => below_cellsM hC _ 0 _ hw⟩
theorem eight {P : Nat → Prop} (h0 : P 0) (h1 : P 1) (h2 : P 2) (h3 : P 3) (h4 : P 4) (h5 : P 5) (h6 : P 6) (h7 : P 7) : ∀ i, i < 8 → P i := fun i hi => by
  match i, hi with
  | 0, _ => exact h0
  | 1, _ => exact h1
  | 2, _ => exact h2
  | 3, _ => exact h3
  | 4, _ => exact h4
  | 5, _ => exact h5
  | 6, _ => exact h6
  | 7, _ => exact h7
theorem isSome_of {o : Option Value} {v : Value} (h : o = some v) : o.isSome = true := by rw [h]; rfl
theorem gi_mJ (L : Int) (js : List Int) {i k : Nat} (h : i + k + 1 = js.length) : clI ((mJ L js).take (k + 1)) = clI ((mJ L js).take k) ++ [.int .i64 (L - gi js i)] := by
  have hl : (mJ L js).length = js.length := by unfold mJ; simp
  rw [List.take_succ_eq_append_getElem (by omega)]
  have : (mJ L js)[k]'(by omega) = L - gi js i := by
    unfold mJ
    rw [List.getElem_reverse, List.getElem_map, gi_at _ (by omega)]
    congr 2
    simp
    omega
  rw [this]
  unfold clI
  rw [List.map_append]
  rfl
theorem own_cap {w : World} {B : Nat} {T : TypeId} {a : Option Addr} {n c : Nat} {xs ys : List Value} (h : w.ownsRow B T 1 (.slice a n c) n xs) (e : xs = ys) : w.ownsRow B T 1 (.slice a n c) n ys := e ▸ h
/-- What mirrored returns. -/
def MirE (L : Int) (js : List Int) (l : List Sgn) (q : List Edc) (q0 q1 q2 q3 : Int) (w : World) (e : Ending) (w' : World) : Prop :=
  ∃ aj cj bs cs ae ce, e = .returned (.agg #[.int .i64 L, .slice aj js.length cj, .slice bs l.length cs, .slice ae q.length ce, .int .i64 q0, .int .i64 (-q1), .int .i64 q2, .int .i64 (L - 1 - q3)]) ∧ IntsS w' aj (mJ L js) ∧ SgnS w' bs (l.map (mS L)) ∧ EdS w' ae (q.map (mE L)) ∧ Below w.heap.size w w'
theorem infoEd : (Tryz.prog.info? 82).map (fun i => (i.zero, i.size, i.bytes)) = some (some (.agg #[.int .i64 0, .int .i64 0, .int .i64 0, .int .i64 0, .int .i64 0, .int .i64 0, .int .i64 0, .int .i64 0]), 8, 64) := by kernel_rfl
set_option linter.unnecessarySimpa false
set_option maxRecDepth 100000 in
set_option maxHeartbeats 4000000 in
theorem mirrored_r (L : Int) (a : Option Addr) (js : List Int) (ca : Nat) (aa : Option Addr) (l : List Sgn) (cl : Nat) (ae : Option Addr) (q : List Edc) (cq : Nat) (q0 q1 q2 q3 : Int) (w : World) (hI : IntsS w a js) (hA : SgnS w aa l) (hE : EdS w ae q) (hV : lstE L js l q = 0) (hL2 : L ≤ 200) (hq1 : q1 = 1 ∨ q1 = -1) (hm0 : 0 ≤ q3) (hm1 : q3 < L) : Calls Tryz.prog 20 #[.agg #[.int .i64 L, .slice a js.length ca, .slice aa l.length cl, .slice ae q.length cq, .int .i64 q0, .int .i64 q1, .int .i64 q2, .int .i64 q3]] w (MirE L js l q q0 q1 q2 q3 w) := by
  obtain ⟨hLb, hJB, hCB, hln⟩ := lst_good hV
  obtain ⟨hll, hLa, -⟩ := lst_line hV
  have hjl : js.length ≤ 50 := ((line_iff L js).1 hll).2.1
  have hsl := (sgns_iff L js l).1 (lst_sgns hV)
  have hel := (edcs_iff L js q).1 (lst_edcs hV)
  have HJb : Hid (∀ i, i < js.length → 0 ≤ gi js i ∧ gi js i ≤ 100000) := Lib.hid hJB
  have HSL : Hid (l.length ≤ 100 ∧ q.length ≤ 50) := Lib.hid ⟨hsl.2.1, hel.2.1⟩
  have HSB : Hid (∀ i, i < l.length → (0 ≤ (gs l i).c ∧ (gs l i).c ≤ L) ∧ -1 ≤ (gs l i).d ∧ (gs l i).d ≤ 1) := Lib.hid fun i hi => by
    have h1 := (hsl.2.2.1 (gs l i) (by rw [gs_at _ hi]; exact List.getElem_mem _)).2
    unfold sgnB at h1
    simp only [Bool.and_eq_true] at h1
    have h2 := btw_ge h1.1.1.1.1.1.2
    have h3 := h1.1.1.1.1.2
    unfold dirB at h3
    simp only [Bool.or_eq_true, beq_iff_eq] at h3
    exact ⟨h2, by omega, by omega⟩
  have HEB : Hid (∀ i, i < q.length → (0 ≤ (ge q i).fr ∧ (ge q i).fr ≤ L) ∧ (0 ≤ (ge q i).tt ∧ (ge q i).tt ≤ L) ∧ -1 ≤ (ge q i).d ∧ (ge q i).d ≤ 1) := Lib.hid fun i hi => by
    have h1 := (hel.2.2.1 (ge q i) (by unfold ge; simp [hi])).2
    unfold edcB at h1
    simp only [Bool.and_eq_true, decide_eq_true_eq] at h1
    have h3 := h1.1.1.1.1.2
    unfold dirB at h3
    simp only [Bool.or_eq_true, beq_iff_eq] at h3
    obtain ⟨⟨⟨⟨⟨-, -⟩, h4⟩, h5⟩, h6⟩, -⟩ := h1
    exact ⟨by omega, by omega, by omega, by omega⟩
  have HJn : Hid ((mJ L js).length = js.length ∧ ∀ i, i < (mJ L js).length → I64 (gi (mJ L js) i)) := Lib.hid ⟨by unfold mJ; simp, fun i hi => by
    have hm := ((line_iff L (mJ L js)).1 (m_line hll)).2.2.1 (gi (mJ L js) i) (by rw [gi_at _ hi]; exact List.getElem_mem _)
    unfold I64; omega⟩
  clear hJB hCB hsl hel hll hV hln hLb
  obtain ⟨hlen, blk, off, ad, cp, hadr, hc⟩ := hA
  have HC := Lib.hid hc
  have HL : Hid (0 < l.length → aa = some ⟨blk, off, none⟩) := Lib.hid fun h => hadr (List.ne_nil_of_length_pos h)
  have HCP := Lib.hid (fun k (hk : k < l.length) => (hc k hk).2.2)
  obtain ⟨-, -, jb, jo, hja, hjc⟩ := hI
  have HJc := Lib.hid hjc
  have HJa : Hid (0 < js.length → a = some ⟨jb, jo, none⟩) := Lib.hid fun h => hja (List.ne_nil_of_length_pos h)
  obtain ⟨-, eb, eo, hea, hec⟩ := hE
  have HEc := Lib.hid hec
  have HEa : Hid (0 < q.length → ae = some ⟨eb, eo, none⟩) := Lib.hid fun h => hea (List.ne_nil_of_length_pos h)
  clear hadr hc hja hjc hea hec
  have HP0 : PrsL w [] := fun x hx => by cases hx
  go_enter Tryz.func20, Tryz.ntmps20
  have hn1 : wrap64 (-q1) = -q1 := by unfold wrap64; omega
  go_upto_region 3 with (fail)
  obtain ⟨wM, hwM⟩ : ∃ wM, (w.alloc (.cells #[.int .i64 L, .slice a js.length ca, .slice aa l.length cl, .slice ae q.length cq, .int .i64 q0, .int .i64 q1, .int .i64 q2, .int .i64 q3] 28)).alloc (.cells #[.int .i64 0, .slice none 0 0, .slice none 0 0, .slice none 0 0, .int .i64 0, .int .i64 0, .int .i64 0, .int .i64 0] 28) = wM := ⟨_, rfl⟩
  have hMs : wM.heap.size = w.heap.size + 1 + 1 := by rw [← hwM]; simp
  have HWM : Hid (Below w.heap.size w wM) := Lib.hid (by rw [← hwM]; exact ((Below.refl _ _).alloc (Nat.le_refl _) _).alloc (by simp) _)
  have HM1 : Hid (wM.heap[w.heap.size]? = some (.cells #[.int .i64 L, .slice a js.length ca, .slice aa l.length cl, .slice ae q.length cq, .int .i64 q0, .int .i64 q1, .int .i64 q2, .int .i64 q3] 28 (0, 0))) := Lib.hid (by rw [← hwM, allocOld _ _ (by simp)]; exact heap_alloc_new _ _)
  have HM2 : Hid (wM.heap[w.heap.size + 1]? = some (.cells #[.int .i64 0, .slice none 0 0, .slice none 0 0, .slice none 0 0, .int .i64 0, .int .i64 0, .int .i64 0, .int .i64 0] 28 (0, 0))) := Lib.hid (by
    have h9 := heap_alloc_new (w.alloc (.cells #[.int .i64 L, .slice a js.length ca, .slice aa l.length cl, .slice ae q.length cq, .int .i64 q0, .int .i64 q1, .int .i64 q2, .int .i64 q3] 28)) (.cells #[.int .i64 0, .slice none 0 0, .slice none 0 0, .slice none 0 0, .int .i64 0, .int .i64 0, .int .i64 0, .int .i64 0] 28)
    rw [← hwM]
    simpa using h9)
  rw [hwM]
  clear hwM
  obtain ⟨wB, hwB⟩ : ∃ wB, wM.alloc (.cells #[.int .i64 L, .slice none 0 0, .slice none 0 0, .slice none 0 0, .int .i64 q0, .int .i64 (-q1), .int .i64 q2, .int .i64 (L - 1 - q3)] 28) = wB := ⟨_, rfl⟩
  have HB4 : Hid (wB.heap[wM.heap.size]? = some (.cells #[.int .i64 L, .slice none 0 0, .slice none 0 0, .slice none 0 0, .int .i64 q0, .int .i64 (-q1), .int .i64 q2, .int .i64 (L - 1 - q3)] 28 (0, 0))) := Lib.hid (by rw [← hwB]; exact heap_alloc_new _ _)
  have HBB : Hid (Below wM.heap.size wM wB) := Lib.hid (by rw [← hwB]; exact (Below.refl _ _).alloc (Nat.le_refl _) _)
  rw [hwB, ← hMs]
  clear hwB
  have M1 := Lib.hid (heapc HM1.out (i := 1) (v := .slice a js.length ca) rfl)
  have M2 := Lib.hid (heapc HM1.out (i := 2) (v := .slice aa l.length cl) rfl)
  have M3 := Lib.hid (heapc HM1.out (i := 3) (v := .slice ae q.length cq) rfl)
  have hM1s : w.heap.size < wM.heap.size := by omega
  have hM2s : w.heap.size + 1 < wM.heap.size := by omega
  clear hMs
  have m1 := (HBB.out.cell (p := ⟨w.heap.size, 1, none⟩) hM1s).trans M1.out
  go_wp2_with fail
  clear m1 hn1
  go_loopw [5] (fun i wr => ∃ (k : Nat) (aj : Option Addr) (cj : Nat), k ≤ js.length ∧ i = .int .i64 ((js.length : Int) - 1 - k) ∧ Below wM.heap.size wM wr ∧ Hid (wr.ownsRow wM.heap.size 3 1 (.slice aj k cj) k (clI ((mJ L js).take k))) ∧ Hid (wr.heap[wM.heap.size]? = some (.cells #[.int .i64 L, .slice aj k cj, .slice none 0 0, .slice none 0 0, .int .i64 q0, .int .i64 (-q1), .int .i64 q2, .int .i64 (L - 1 - q3)] 28 (0, 0)))) (fun i _ => (intOf i + 1).toNat)
  case atStart => exact ⟨0, none, 0, Nat.zero_le _, by congr 1; omega, HBB.out, Lib.hid (World.ownsRow_nil _ _ _ _), HB4⟩
  case round =>
    obtain ⟨k, aj, cj, hk, rfl, hbr, HRow, HB4⟩ := hrel
    have m1 := (hbr.cell (p := ⟨w.heap.size, 1, none⟩) hM1s).trans M1.out
    by_cases hlt : k < js.length
    · obtain ⟨i, hi⟩ : ∃ i : Nat, i + k + 1 = js.length := ⟨js.length - 1 - k, by omega⟩
      have hii : (js.length : Int) - 1 - (k : Int) = (i : Int) := by omega
      rw [hii]
      obtain rfl := HJa.out (by omega)
      have cz := cell_below (HJc.out i (by omega)) (HWM.out.trans (hbr.mono HWM.out.size))
      have HStep := Lib.hid (gi_mJ L js hi)
      have hJb := HJb.out i (by omega)
      have hzj := block_lt (HJc.out i (by omega))
      have hzj := Nat.lt_of_lt_of_le hzj HWM.out.size
      have hz1 := hM1s
      have hr4 := heap_lt HB4.out
      have y1 := heapc HB4.out (i := 1) (v := .slice aj k cj) rfl
      clear HC HL HCP HEc HEa HJc HJa HJb
      generalize gi js i = J at *
      have g1 : (i : Int) < (js.length : Int) := by omega
      have g2 : ¬ ((i : Int) < 0) := by omega
      have hwx : wrap64 (L - J) = L - J := by unfold wrap64; omega
      have hwy : IntKind.i64.wrap (L - J) = L - J := by rw [IntWalk.i64_left]; exact hwx
      obtain ⟨n0, hiI, hz0, hzI1, hzI2⟩ := info_parts infoInt
      go_wp2_with fail
      refine wp_region_held_drew (S := fun w' => Below wM.heap.size wr w') (by kernel_rfl) ((Below.refl _ _).drew) (fun hHeld => ?_)
      refine takeU (i := 0) (some 37) (.pointer (some ⟨wM.heap.size, 0, none⟩)) (by kernel_rfl) (by kernel_rfl) (by kernel_rfl) (by kernel_rfl) (by kernel_rfl) (fun _ => by kernel_rfl) (fun _ _ _ h => h) hHeld ?_
      refine takeU (i := 1) (some 38) (.pointer (some ⟨wM.heap.size, 1, none⟩)) (by kernel_rfl) (by kernel_rfl) (by kernel_rfl) (by kernel_rfl) (by kernel_rfl) (fun _ => by kernel_rfl) (fun _ _ _ h => h) hHeld ?_
      refine takeU (i := 3) (some 40) (.int .i64 L) (by kernel_rfl) (by kernel_rfl) (by kernel_rfl) (by kernel_rfl) (by kernel_rfl) (fun _ => by kernel_rfl) (fun _ _ _ h => h) hHeld ?_
      refine takeU (i := 4) (some 41) (.pointer (some ⟨w.heap.size, 0, none⟩)) (by kernel_rfl) (by kernel_rfl) (by kernel_rfl) (by kernel_rfl) (by kernel_rfl) (fun _ => by kernel_rfl) (fun _ _ _ h => h) hHeld ?_
      refine takeU (i := 5) (some 42) (.pointer (some ⟨w.heap.size, 1, none⟩)) (by kernel_rfl) (by kernel_rfl) (by kernel_rfl) (by kernel_rfl) (by kernel_rfl) (fun _ => by kernel_rfl) (fun _ _ _ h => h) hHeld ?_
      refine wpAnyH_take (i := 6) (oi := { dst := some 43, op := Go.Op.load 22 (Go.Operand.tmp 42), type := 22, pos := "more.go:136", after := #[{ on := 5, ground := Go.Ground.data }], guard := none }) (v := .slice (some ⟨jb, jo, none⟩) js.length ca) rfl (by kernel_rfl) (by kernel_rfl) (by kernel_rfl) (fun _ _ _ h => h) (.inl ⟨by kernel_rfl, fun w9 h9 => by
        clear hHeld
        have d0 := (h9.cell (p := ⟨w.heap.size, 1, none⟩) hz1).trans m1
        clear h9
        go_simp⟩) hHeld ?_
      refine takeU (i := 7) (some 44) (.int .i64 i) (by kernel_rfl) (by kernel_rfl) (by kernel_rfl) (by kernel_rfl) (by kernel_rfl) (fun _ => by kernel_rfl) (fun _ _ _ h => h) hHeld ?_
      refine wpAnyH_take (i := 8) (oi := { dst := some 45, op := Go.Op.indexAddr 22 (Go.Operand.tmp 43) (Go.Operand.tmp 44), type := 0, pos := "more.go:136", after := #[{ on := 6, ground := Go.Ground.data }, { on := 7, ground := Go.Ground.data }], guard := none }) (v := .pointer (some ⟨jb, jo + i, none⟩)) rfl (by kernel_rfl) (by kernel_rfl) (by kernel_rfl) (fun _ _ _ h => h) (.inl ⟨by kernel_rfl, fun w9 h9 => by
        clear hHeld h9
        go_simp⟩) hHeld ?_
      refine wpAnyH_take (i := 9) (oi := { dst := some 46, op := Go.Op.load 3 (Go.Operand.tmp 45), type := 3, pos := "more.go:136", after := #[{ on := 8, ground := Go.Ground.data }], guard := none }) (v := .int .i64 J) rfl (by kernel_rfl) (by kernel_rfl) (by kernel_rfl) (fun _ _ _ h => h) (.inl ⟨by kernel_rfl, fun w9 h9 => by
        clear hHeld
        have d0 := (h9.cell (p := ⟨jb, jo + i, none⟩) hzj).trans cz
        clear h9
        go_simp⟩) hHeld ?_
      refine wpAnyH_take (i := 10) (oi := { dst := some 47, op := Go.Op.binOp Go.BinOp.sub 3 (Go.Operand.tmp 40) (Go.Operand.tmp 46) 3, type := 3, pos := "more.go:136", after := #[{ on := 3, ground := Go.Ground.data }, { on := 9, ground := Go.Ground.data }], guard := none }) (v := .int .i64 (L - J)) rfl (by kernel_rfl) (by kernel_rfl) (by kernel_rfl) (fun _ _ _ h => h) (.inl ⟨by kernel_rfl, fun w9 h9 => by
        clear hHeld h9
        go_simp⟩) hHeld ?_
      try simp only [Act.put, List.setIfInBounds_toArray, List.set_cons_zero, List.set_cons_succ]
      refine wpAnyH_ready (rs := [2, 11]) (by kernel_rfl) (by simp) ?_
      refine AllReadyH.cons (o := { dst := some 39, op := Go.Op.load 22 (Go.Operand.tmp 38), type := 22, pos := "more.go:136", after := #[{ on := 1, ground := Go.Ground.data }], guard := none }) rfl (fun K hK => ?_) (AllReadyH.cons (o := { dst := some 48, op := Go.Op.buildSlice 22 1 #[(0, Go.Operand.tmp 47)], type := 22, pos := "more.go:136", after := #[{ on := 10, ground := Go.Ground.data }], guard := none }) rfl (fun K hK => ?_) AllReadyH.nil)
      · go_simp
        refine hK.out _ _ hHeld (fun hHeld => ?_)
        clear hK K
        try simp only [Act.put, List.setIfInBounds_toArray, List.set_cons_zero, List.set_cons_succ]
        try simp only [Act.put, List.setIfInBounds_toArray, List.set_cons_zero, List.set_cons_succ]
        refine wpAnyH_ready (rs := [11]) (by kernel_rfl) (by simp) ?_
        refine AllReadyH.cons (o := { dst := some 48, op := Go.Op.buildSlice 22 1 #[(0, Go.Operand.tmp 47)], type := 22, pos := "more.go:136", after := #[{ on := 10, ground := Go.Ground.data }], guard := none }) rfl (fun K hK => ?_) AllReadyH.nil
        go_simp
        refine hK.out _ _ (hHeld.alloc hbr.size _) (fun hHeld => ?_)
        clear hK K
        try simp only [Act.put, List.setIfInBounds_toArray, List.set_cons_zero, List.set_cons_succ]
        try simp only [Act.put, List.setIfInBounds_toArray, List.set_cons_zero, List.set_cons_succ]
        refine wpAnyH_ready (rs := [12]) (by kernel_rfl) (by simp) ?_
        refine AllReadyH.cons (o := { dst := some 49, op := Go.Op.call { callee := Go.Callee.builtin Go.Builtin.append, args := #[Go.Operand.tmp 39, Go.Operand.tmp 48], argTypes := #[22, 22] }, type := 22, pos := "more.go:136", after := #[{ on := 2, ground := Go.Ground.data }, { on := 11, ground := Go.Ground.data }], guard := none }) rfl (fun K hK => ?_) AllReadyH.nil
        have hOW0 := Lib.hid (owns_belowI HRow.out (((Below.refl wr.heap.size wr).drew).alloc ((Below.refl wr.heap.size wr).drew).size (.cells #[.int .i64 (L - J)] 3)))
        refine step_append_lies _ (by rfl) _ _ 22 (by rfl) wM.heap.size 3 n0 _ 1 8 Tryz.underlying22 hiI hz0 hzI1 hzI2 rfl (by decide) (.slice aj k cj) k _ (by rfl) hOW0.out ⟨wr.drew.heap.size, 0, none⟩ 1 1 [.int .i64 (L - J)] (by rfl) (by rfl) (World.news_of_block (w := wr.drew.alloc (.cells #[.int .i64 (L - J)] 3)) (B := wr.drew.heap.size) (cs := #[.int .i64 (L - J)]) (t := 3) (fr := (0, 0)) (heap_alloc_new _ _)) (by simp [Value.oneCell']) (by decide) (by unfold maxLen; omega) (by omega) (by simp; have := hbr.size; omega) _ rfl ?_
        intro g6 c6 w6 hown6 hgrow6 hat6 hlt6
        refine hK.out _ _ (hHeld.grown hgrow6 (by simp; have := hbr.size; omega) (fun z hz => owns_blockI hOW0.out hz)) (fun hHeld => ?_)
        have HO6 := Lib.hid hown6
        have kp : KpB wr w6 aj g6 := kp_grown (W := wr.drew) hgrow6 hat6 (by simp)
        obtain ⟨hB6, -⟩ := heap_kept kp HB4.out (fun y hy => own_type HRow.out HB4.out (by decide) y hy)
        have HB6 := Lib.hid hB6
        have fz : w6.frozen? ⟨wM.heap.size, 1, none⟩ = false := by simp [World.frozen?, hB6]
        have yc := heapc hB6 (i := 1) (v := .slice aj k cj) rfl
        clear kp hB6
        clear hK K hgrow6 hat6 hlt6 hown6 hOW0
        try simp only [Act.put, List.setIfInBounds_toArray, List.set_cons_zero, List.set_cons_succ]
        refine takeU (i := 13) (some 50) (.pointer (some ⟨wM.heap.size, 0, none⟩)) (by kernel_rfl) (by kernel_rfl) (by kernel_rfl) (by kernel_rfl) (by kernel_rfl) (fun _ => by kernel_rfl) (fun _ _ _ h => h) hHeld ?_
        refine takeU (i := 14) (some 51) (.pointer (some ⟨wM.heap.size, 1, none⟩)) (by kernel_rfl) (by kernel_rfl) (by kernel_rfl) (by kernel_rfl) (by kernel_rfl) (fun _ => by kernel_rfl) (fun _ _ _ h => h) hHeld ?_
        try simp only [Act.put, List.setIfInBounds_toArray, List.set_cons_zero, List.set_cons_succ]
        refine wpAnyH_ready (rs := [15]) (by kernel_rfl) (by simp) ?_
        refine AllReadyH.cons (o := { dst := none, op := Go.Op.store 22 (Go.Operand.tmp 51) (Go.Operand.tmp 49), type := 0, pos := "more.go:136", after := #[{ on := 14, ground := Go.Ground.data }, { on := 12, ground := Go.Ground.data }, { on := 12, ground := Go.Ground.chain }, { on := 0, ground := Go.Ground.phase }, { on := 1, ground := Go.Ground.phase }, { on := 2, ground := Go.Ground.phase }, { on := 3, ground := Go.Ground.phase }, { on := 4, ground := Go.Ground.phase }, { on := 5, ground := Go.Ground.phase }, { on := 6, ground := Go.Ground.phase }, { on := 7, ground := Go.Ground.phase }, { on := 8, ground := Go.Ground.phase }, { on := 9, ground := Go.Ground.phase }, { on := 10, ground := Go.Ground.phase }, { on := 11, ground := Go.Ground.phase }, { on := 12, ground := Go.Ground.phase }], guard := none }) rfl (fun K hK => ?_) AllReadyH.nil
        go_simp
        refine hK.out _ _ (hHeld.setCell (p := ⟨wM.heap.size, 1, none⟩) (Nat.le_refl _) _) (fun hHeld => ?_)
        clear hK K
        try simp only [Act.put, List.setIfInBounds_toArray, List.set_cons_zero, List.set_cons_succ]
        refine wpAnyH_done (by kernel_rfl) ?_ _
        try simp only [Act.put, List.setIfInBounds_toArray, List.set_cons_zero, List.set_cons_succ]
        go_wp2_with fail
        go_roundw
        case rel =>
          have e1 := own_set (o := 1) (.slice (some ⟨g6, 0, none⟩) (k + 1) c6) HO6.out HB6.out (by decide)
          have e2 := heap_setCell_same w6 wM.heap.size 1 _ 28 (.slice (some ⟨g6, 0, none⟩) (k + 1) c6) HB6.out
          exact ⟨k + 1, some ⟨g6, 0, none⟩, c6, by omega, by congr 1; omega, hbr.trans (hHeld.mono (Nat.le_refl _)), Lib.hid (by rw [HStep.out]; exact e1), Lib.hid e2⟩
        case measure => (simp [intOf]; try omega)
      · go_simp
        refine hK.out _ _ (hHeld.alloc hbr.size _) (fun hHeld => ?_)
        clear hK K
        try simp only [Act.put, List.setIfInBounds_toArray, List.set_cons_zero, List.set_cons_succ]
        try simp only [Act.put, List.setIfInBounds_toArray, List.set_cons_zero, List.set_cons_succ]
        refine wpAnyH_ready (rs := [2]) (by kernel_rfl) (by simp) ?_
        refine AllReadyH.cons (o := { dst := some 39, op := Go.Op.load 22 (Go.Operand.tmp 38), type := 22, pos := "more.go:136", after := #[{ on := 1, ground := Go.Ground.data }], guard := none }) rfl (fun K hK => ?_) AllReadyH.nil
        go_simp
        refine hK.out _ _ hHeld (fun hHeld => ?_)
        clear hK K
        try simp only [Act.put, List.setIfInBounds_toArray, List.set_cons_zero, List.set_cons_succ]
        try simp only [Act.put, List.setIfInBounds_toArray, List.set_cons_zero, List.set_cons_succ]
        refine wpAnyH_ready (rs := [12]) (by kernel_rfl) (by simp) ?_
        refine AllReadyH.cons (o := { dst := some 49, op := Go.Op.call { callee := Go.Callee.builtin Go.Builtin.append, args := #[Go.Operand.tmp 39, Go.Operand.tmp 48], argTypes := #[22, 22] }, type := 22, pos := "more.go:136", after := #[{ on := 2, ground := Go.Ground.data }, { on := 11, ground := Go.Ground.data }], guard := none }) rfl (fun K hK => ?_) AllReadyH.nil
        have hOW0 := Lib.hid (owns_belowI HRow.out (((Below.refl wr.heap.size wr).drew).alloc ((Below.refl wr.heap.size wr).drew).size (.cells #[.int .i64 (L - J)] 3)))
        refine step_append_lies _ (by rfl) _ _ 22 (by rfl) wM.heap.size 3 n0 _ 1 8 Tryz.underlying22 hiI hz0 hzI1 hzI2 rfl (by decide) (.slice aj k cj) k _ (by rfl) hOW0.out ⟨wr.drew.heap.size, 0, none⟩ 1 1 [.int .i64 (L - J)] (by rfl) (by rfl) (World.news_of_block (w := wr.drew.alloc (.cells #[.int .i64 (L - J)] 3)) (B := wr.drew.heap.size) (cs := #[.int .i64 (L - J)]) (t := 3) (fr := (0, 0)) (heap_alloc_new _ _)) (by simp [Value.oneCell']) (by decide) (by unfold maxLen; omega) (by omega) (by simp; have := hbr.size; omega) _ rfl ?_
        intro g6 c6 w6 hown6 hgrow6 hat6 hlt6
        refine hK.out _ _ (hHeld.grown hgrow6 (by simp; have := hbr.size; omega) (fun z hz => owns_blockI hOW0.out hz)) (fun hHeld => ?_)
        have HO6 := Lib.hid hown6
        have kp : KpB wr w6 aj g6 := kp_grown (W := wr.drew) hgrow6 hat6 (by simp)
        obtain ⟨hB6, -⟩ := heap_kept kp HB4.out (fun y hy => own_type HRow.out HB4.out (by decide) y hy)
        have HB6 := Lib.hid hB6
        have fz : w6.frozen? ⟨wM.heap.size, 1, none⟩ = false := by simp [World.frozen?, hB6]
        have yc := heapc hB6 (i := 1) (v := .slice aj k cj) rfl
        clear kp hB6
        clear hK K hgrow6 hat6 hlt6 hown6 hOW0
        try simp only [Act.put, List.setIfInBounds_toArray, List.set_cons_zero, List.set_cons_succ]
        refine takeU (i := 13) (some 50) (.pointer (some ⟨wM.heap.size, 0, none⟩)) (by kernel_rfl) (by kernel_rfl) (by kernel_rfl) (by kernel_rfl) (by kernel_rfl) (fun _ => by kernel_rfl) (fun _ _ _ h => h) hHeld ?_
        refine takeU (i := 14) (some 51) (.pointer (some ⟨wM.heap.size, 1, none⟩)) (by kernel_rfl) (by kernel_rfl) (by kernel_rfl) (by kernel_rfl) (by kernel_rfl) (fun _ => by kernel_rfl) (fun _ _ _ h => h) hHeld ?_
        try simp only [Act.put, List.setIfInBounds_toArray, List.set_cons_zero, List.set_cons_succ]
        refine wpAnyH_ready (rs := [15]) (by kernel_rfl) (by simp) ?_
        refine AllReadyH.cons (o := { dst := none, op := Go.Op.store 22 (Go.Operand.tmp 51) (Go.Operand.tmp 49), type := 0, pos := "more.go:136", after := #[{ on := 14, ground := Go.Ground.data }, { on := 12, ground := Go.Ground.data }, { on := 12, ground := Go.Ground.chain }, { on := 0, ground := Go.Ground.phase }, { on := 1, ground := Go.Ground.phase }, { on := 2, ground := Go.Ground.phase }, { on := 3, ground := Go.Ground.phase }, { on := 4, ground := Go.Ground.phase }, { on := 5, ground := Go.Ground.phase }, { on := 6, ground := Go.Ground.phase }, { on := 7, ground := Go.Ground.phase }, { on := 8, ground := Go.Ground.phase }, { on := 9, ground := Go.Ground.phase }, { on := 10, ground := Go.Ground.phase }, { on := 11, ground := Go.Ground.phase }, { on := 12, ground := Go.Ground.phase }], guard := none }) rfl (fun K hK => ?_) AllReadyH.nil
        go_simp
        refine hK.out _ _ (hHeld.setCell (p := ⟨wM.heap.size, 1, none⟩) (Nat.le_refl _) _) (fun hHeld => ?_)
        clear hK K
        try simp only [Act.put, List.setIfInBounds_toArray, List.set_cons_zero, List.set_cons_succ]
        refine wpAnyH_done (by kernel_rfl) ?_ _
        try simp only [Act.put, List.setIfInBounds_toArray, List.set_cons_zero, List.set_cons_succ]
        go_wp2_with fail
        go_roundw
        case rel =>
          have e1 := own_set (o := 1) (.slice (some ⟨g6, 0, none⟩) (k + 1) c6) HO6.out HB6.out (by decide)
          have e2 := heap_setCell_same w6 wM.heap.size 1 _ 28 (.slice (some ⟨g6, 0, none⟩) (k + 1) c6) HB6.out
          exact ⟨k + 1, some ⟨g6, 0, none⟩, c6, by omega, by congr 1; omega, hbr.trans (hHeld.mono (Nat.le_refl _)), Lib.hid (by rw [HStep.out]; exact e1), Lib.hid e2⟩
        case measure => (simp [intOf]; try omega)
    · obtain rfl : k = js.length := by omega
      have HR1 : Hid (wr.ownsRow wM.heap.size 3 1 (.slice aj js.length cj) js.length (clI (mJ L js))) := Lib.hid (by
        have h9 := HRow.out
        rw [List.take_of_length_le (by rw [HJn.out.1]; exact Nat.le_refl _)] at h9
        exact h9)
      have hneg : (js.length : Int) - 1 - (js.length : Int) = -1 := by omega
      rw [hneg]
      clear HRow hneg hlt HJc HJa HJb
      obtain ⟨wl, rfl⟩ : ∃ wl : World, wl = wr := ⟨_, rfl⟩
      have m2 := (hbr.cell (p := ⟨w.heap.size, 2, none⟩) hM1s).trans M2.out
      go_wp2_with fail
      clear m1 m2
      have HBl := Lib.hid hbr
      clear hbr
      go_loopw [6] (fun i wr => ∃ (k : Nat) (bs : Option Addr) (cs : Nat) (S : List RE), k ≤ l.length ∧ i = .int .i64 k ∧ Below wM.heap.size wM wr ∧ Hid (wr.ownsRow wM.heap.size 3 1 (.slice aj js.length cj) js.length (clI (mJ L js))) ∧ Hid (wr.ownsRow wM.heap.size 58 9 (.slice bs k cs) k (clR S)) ∧ Hid (wr.heap[wM.heap.size]? = some (.cells #[.int .i64 L, .slice aj js.length cj, .slice bs k cs, .slice none 0 0, .int .i64 q0, .int .i64 (-q1), .int .i64 q2, .int .i64 (L - 1 - q3)] 28 (0, 0))) ∧ Hid (S.map (·.1) = (l.take k).map (mS L)) ∧ Hid (PrsL w S)) (fun i _ => l.length - (intOf i).toNat)
      case atStart => exact ⟨0, none, 0, [], Nat.zero_le _, rfl, HBl.out, HR1, Lib.hid (World.ownsRow_nil _ _ _ _), HB4, Lib.hid rfl, Lib.hid HP0⟩
      case round =>
        clear HR1 HB4 HBl
        obtain ⟨k, bs, cs, S, hk, rfl, hbr, HR1, HR2, HB4, HM, HP⟩ := hrel
        have m2 := (hbr.cell (p := ⟨w.heap.size, 2, none⟩) hM1s).trans M2.out
        by_cases hlt : k < l.length
        · obtain rfl := HL.out (by omega)
          have hbw := HWM.out.trans (hbr.mono HWM.out.size)
          obtain ⟨⟨b0, b1, b2, b3, b4, b5, b6, b7⟩, b8, hP⟩ := HC.out k hlt
          have hPk := Lib.hid (HCP.out k hlt)
          have hXb := HSB.out k hlt
          have b0 := cell_below b0 hbw
          have b1 := cell_below b1 hbw
          have b2 := cell_below b2 hbw
          have b3 := cell_below b3 hbw
          have b4 := cell_below b4 hbw
          have b5 := cell_below b5 hbw
          have b6 := cell_below b6 hbw
          have b7 := cell_below b7 hbw
          have b8 := cell_below b8 hbw
          have g1 : (k : Int) < (l.length : Int) := by omega
          have HTk : Hid (l.take (k + 1) = l.take k ++ [gs l k]) := Lib.hid (take_snoc l hlt)
          obtain ⟨adk, hadk⟩ : ∃ x, ad k = x := ⟨_, rfl⟩
          obtain ⟨cpk, hcpk⟩ : ∃ x, cp k = x := ⟨_, rfl⟩
          rw [hadk] at b8 hPk hP
          rw [hcpk] at b8
          obtain ⟨x, hx⟩ : ∃ x, gs l k = x := ⟨_, rfl⟩
          rw [hx] at b0 b1 b2 b3 b4 b5 b6 b7 b8 hPk HTk hXb
          clear hx hadk hcpk hP HC HL HCP HEc HEa
          have hw1 : wrap64 (L - x.c) = L - x.c := by unfold wrap64; omega
          have hw2 : wrap64 (-x.d) = -x.d := by unfold wrap64; omega
          have hr1 := Nat.lt_of_lt_of_le hM1s hbr.size
          have hSl := HSL.out
          obtain ⟨n0, hiS, hz0, hzS1, hzS2⟩ := info_parts infoSg
          go_upto_region 12 with (fail)
          obtain ⟨wA, hwA⟩ : ∃ wA, wr.alloc (.cells #[.int .i64 x.n, .int .i64 x.k, .int .i64 x.v, .int .i64 (L - x.c), .int .i64 (-x.d), .int .i64 x.rk, .int .i64 x.up, .int .i64 x.dn, .slice adk x.cv.length cpk] 58) = wA := ⟨_, rfl⟩
          have HX : Hid (wA.heap[wr.heap.size]? = some (.cells #[.int .i64 x.n, .int .i64 x.k, .int .i64 x.v, .int .i64 (L - x.c), .int .i64 (-x.d), .int .i64 x.rk, .int .i64 x.up, .int .i64 x.dn, .slice adk x.cv.length cpk] 58 (0, 0))) := Lib.hid (by rw [← hwA]; exact heap_alloc_new _ _)
          have hbA : Below wr.heap.size wr wA := by rw [← hwA]; exact (Below.refl _ _).alloc (Nat.le_refl _) _
          replace HR2 := Lib.hid (owns_belowI HR2.out hbA)
          replace HR1 := Lib.hid (owns_belowI HR1.out hbA)
          replace HB4 := Lib.hid (heap_below HB4.out hbA)
          have HB := Lib.hid (hbr.trans (hbA.mono hbr.size))
          rw [hwA]
          clear hwA hbA hbr b0 b1 b2 b3 b4 b5 b6 b7 b8
          have x0 := heapc HX.out (i := 0) (v := .int .i64 x.n) rfl
          have x1 := heapc HX.out (i := 1) (v := .int .i64 x.k) rfl
          have x2 := heapc HX.out (i := 2) (v := .int .i64 x.v) rfl
          have x3 := heapc HX.out (i := 3) (v := .int .i64 (L - x.c)) rfl
          have x4 := heapc HX.out (i := 4) (v := .int .i64 (-x.d)) rfl
          have x5 := heapc HX.out (i := 5) (v := .int .i64 x.rk) rfl
          have x6 := heapc HX.out (i := 6) (v := .int .i64 x.up) rfl
          have x7 := heapc HX.out (i := 7) (v := .int .i64 x.dn) rfl
          have x8 := heapc HX.out (i := 8) (v := .slice adk x.cv.length cpk) rfl
          have y0 := heapc HB4.out (i := 0) (v := .int .i64 L) rfl
          have y1 := heapc HB4.out (i := 1) (v := .slice aj js.length cj) rfl
          have y2 := heapc HB4.out (i := 2) (v := .slice bs k cs) rfl
          have y3 := heapc HB4.out (i := 3) (v := .slice none 0 0) rfl
          have y4 := heapc HB4.out (i := 4) (v := .int .i64 q0) rfl
          have y5 := heapc HB4.out (i := 5) (v := .int .i64 (-q1)) rfl
          have y6 := heapc HB4.out (i := 6) (v := .int .i64 q2) rfl
          have y7 := heapc HB4.out (i := 7) (v := .int .i64 (L - 1 - q3)) rfl
          go_wp2_with (first | (at_builtin; go_loud (refine app_lit rfl _ _ 25 rfl wM.heap.size 58 n0 _ 9 88 Tryz.underlying25 hiS hz0 hzS1 hzS2 rfl (by decide) (by decide) bs k cs _ (by rfl) HR2.out #[.int .i64 x.n, .int .i64 x.k, .int .i64 x.v, .int .i64 (L - x.c), .int .i64 (-x.d), .int .i64 x.rk, .int .i64 x.up, .int .i64 x.dn, .slice adk x.cv.length cpk] rfl ?e1 (by rfl) HB.out.size (by omega) ?e2)))
          case e1 => simp [Value.oneCell']
          case e2 =>
            intro g d w2 ho hkp hlp hbt
            have o0 := (own_kept HR1.out hkp (apB_type HR2.out HR1.out (by decide))).1
            obtain ⟨k4, -⟩ := heap_kept hkp HB4.out (fun y hy => own_type HR2.out HB4.out (by decide) y hy)
            have kb := hbt wM rfl HB.out
            have fz : w2.frozen? ⟨wM.heap.size, 2, none⟩ = false := by simp [World.frozen?, k4]
            have yc := heapc k4 (i := 2) (v := .slice bs k cs) rfl
            clear x0 x1 x2 x3 x4 x5 x6 x7 x8 y0 y1 y2 y3 y4 y5 y6 y7 HX HB
            go_wp2_with fail
            go_roundw
            case rel =>
              have v4 := heap_setCell_same w2 wM.heap.size 2 _ 28 (.slice (some ⟨g, 0, none⟩) (k + 1) d) k4
              have vo := own_set (o := 2) (.slice (some ⟨g, 0, none⟩) (k + 1) d) ho k4 (by decide)
              have v0 := own_set (o := 2) (.slice (some ⟨g, 0, none⟩) (k + 1) d) o0 k4 (by decide)
              exact ⟨k + 1, some ⟨g, 0, none⟩, d, S ++ [((mS L x, adk, cpk) : RE)], by omega, by go_num, kb.setCell (Nat.le_refl _) _, Lib.hid v0, Lib.hid (by rw [clR_snoc]; exact vo), Lib.hid v4, Lib.hid (by rw [map_snoc, HM.out, HTk.out, List.map_append]; rfl), Lib.hid (HP.out.snoc hPk.out)⟩
            case measure => (simp [intOf]; try omega)
        · obtain rfl : k = l.length := by omega
          have hSl : S.length = l.length := by
            have := congrArg List.length HM.out
            simp at this
            exact this
          clear hlt HC HL HCP HSB
          obtain ⟨wl2, rfl⟩ : ∃ wl : World, wl = wr := ⟨_, rfl⟩
          have m3 := (hbr.cell (p := ⟨w.heap.size, 3, none⟩) hM1s).trans M3.out
          have HSn := Lib.hid hSl
          clear hSl
          go_wp2_with fail
          clear m2 m3
          have HBl := Lib.hid hbr
          clear hbr
          go_loopw [8] (fun i wr => ∃ (k : Nat) (ae : Option Addr) (ce : Nat), k ≤ q.length ∧ i = .int .i64 k ∧ Below wM.heap.size wM wr ∧ Hid (wr.ownsRow wM.heap.size 3 1 (.slice aj js.length cj) js.length (clI (mJ L js))) ∧ Hid (wr.ownsRow wM.heap.size 58 9 (.slice bs l.length cs) l.length (clR S)) ∧ Hid (wr.ownsRow wM.heap.size 82 8 (.slice ae k ce) k (clE ((q.take k).map (mE L)))) ∧ Hid (wr.heap[wM.heap.size]? = some (.cells #[.int .i64 L, .slice aj js.length cj, .slice bs l.length cs, .slice ae k ce, .int .i64 q0, .int .i64 (-q1), .int .i64 q2, .int .i64 (L - 1 - q3)] 28 (0, 0)))) (fun i _ => q.length - (intOf i).toNat)
          case atStart => exact ⟨0, none, 0, Nat.zero_le _, rfl, HBl.out, HR1, HR2, Lib.hid (World.ownsRow_nil _ _ _ _), HB4⟩
          case round =>
            clear HR1 HR2 HB4 HBl
            obtain ⟨k, ae2, ce, hk, rfl, hbr, HR1, HR2, HR3, HB4⟩ := hrel
            have m3 := (hbr.cell (p := ⟨w.heap.size, 3, none⟩) hM1s).trans M3.out
            by_cases hlt : k < q.length
            · obtain rfl := HEa.out (by omega)
              have hbw := HWM.out.trans (hbr.mono HWM.out.size)
              obtain ⟨b0, b1, b2, b3, b4, b5, b6, b7⟩ := HEc.out k hlt
              have hXb := HEB.out k hlt
              have b0 := cell_below b0 hbw
              have b1 := cell_below b1 hbw
              have b2 := cell_below b2 hbw
              have b3 := cell_below b3 hbw
              have b4 := cell_below b4 hbw
              have b5 := cell_below b5 hbw
              have b6 := cell_below b6 hbw
              have b7 := cell_below b7 hbw
              have g1 : (k : Int) < (q.length : Int) := by omega
              have HTk : Hid (q.take (k + 1) = q.take k ++ [ge q k]) := Lib.hid (by rw [List.take_succ_eq_append_getElem hlt]; unfold ge; simp [hlt])
              obtain ⟨x, hx⟩ : ∃ x, ge q k = x := ⟨_, rfl⟩
              rw [hx] at b0 b1 b2 b3 b4 b5 b6 b7 HTk hXb
              clear hx HEc HEa
              have hw1 : wrap64 (L - x.fr) = L - x.fr := by unfold wrap64; omega
              have hw3 : wrap64 (L - x.tt) = L - x.tt := by unfold wrap64; omega
              have hw2 : wrap64 (-x.d) = -x.d := by unfold wrap64; omega
              have hr1 := Nat.lt_of_lt_of_le hM1s hbr.size
              have hSl := HSL.out
              obtain ⟨n0, hiE, hz0, hzE1, hzE2⟩ := info_parts infoEd
              go_upto_region 18 with (fail)
              obtain ⟨wA, hwA⟩ : ∃ wA, wr.alloc (.cells #[.int .i64 x.n, .int .i64 x.tp, .int .i64 x.v, .int .i64 (-x.d), .int .i64 (L - x.tt), .int .i64 (L - x.fr), .int .i64 x.st, .int .i64 x.en] 82) = wA := ⟨_, rfl⟩
              have HX : Hid (wA.heap[wr.heap.size]? = some (.cells #[.int .i64 x.n, .int .i64 x.tp, .int .i64 x.v, .int .i64 (-x.d), .int .i64 (L - x.tt), .int .i64 (L - x.fr), .int .i64 x.st, .int .i64 x.en] 82 (0, 0))) := Lib.hid (by rw [← hwA]; exact heap_alloc_new _ _)
              have hbA : Below wr.heap.size wr wA := by rw [← hwA]; exact (Below.refl _ _).alloc (Nat.le_refl _) _
              replace HR3 := Lib.hid (owns_belowI HR3.out hbA)
              replace HR1 := Lib.hid (owns_belowI HR1.out hbA)
              replace HR2 := Lib.hid (owns_belowI HR2.out hbA)
              replace HB4 := Lib.hid (heap_below HB4.out hbA)
              have HB := Lib.hid (hbr.trans (hbA.mono hbr.size))
              rw [hwA]
              clear hwA hbA hbr b0 b1 b2 b3 b4 b5 b6 b7
              have x0 := heapc HX.out (i := 0) (v := .int .i64 x.n) rfl
              have x1 := heapc HX.out (i := 1) (v := .int .i64 x.tp) rfl
              have x2 := heapc HX.out (i := 2) (v := .int .i64 x.v) rfl
              have x3 := heapc HX.out (i := 3) (v := .int .i64 (-x.d)) rfl
              have x4 := heapc HX.out (i := 4) (v := .int .i64 (L - x.tt)) rfl
              have x5 := heapc HX.out (i := 5) (v := .int .i64 (L - x.fr)) rfl
              have x6 := heapc HX.out (i := 6) (v := .int .i64 x.st) rfl
              have x7 := heapc HX.out (i := 7) (v := .int .i64 x.en) rfl
              have y0 := heapc HB4.out (i := 0) (v := .int .i64 L) rfl
              have y1 := heapc HB4.out (i := 1) (v := .slice aj js.length cj) rfl
              have y2 := heapc HB4.out (i := 2) (v := .slice bs l.length cs) rfl
              have y3 := heapc HB4.out (i := 3) (v := .slice ae2 k ce) rfl
              have y4 := heapc HB4.out (i := 4) (v := .int .i64 q0) rfl
              have y5 := heapc HB4.out (i := 5) (v := .int .i64 (-q1)) rfl
              have y6 := heapc HB4.out (i := 6) (v := .int .i64 q2) rfl
              have y7 := heapc HB4.out (i := 7) (v := .int .i64 (L - 1 - q3)) rfl
              go_wp2_with (first | (at_builtin; go_loud (refine app_lit rfl _ _ 26 rfl wM.heap.size 82 n0 _ 8 64 Tryz.underlying26 hiE hz0 hzE1 hzE2 rfl (by decide) (by decide) ae2 k ce _ (by rfl) HR3.out #[.int .i64 x.n, .int .i64 x.tp, .int .i64 x.v, .int .i64 (-x.d), .int .i64 (L - x.tt), .int .i64 (L - x.fr), .int .i64 x.st, .int .i64 x.en] rfl ?e1 (by rfl) HB.out.size (by omega) ?e2)))
              case e1 => simp [Value.oneCell']
              case e2 =>
                intro g d w2 ho hkp hlp hbt
                have o0 := (own_kept HR1.out hkp (apB_type HR3.out HR1.out (by decide))).1
                have o1 := (own_kept HR2.out hkp (apB_type HR3.out HR2.out (by decide))).1
                obtain ⟨k4, -⟩ := heap_kept hkp HB4.out (fun y hy => own_type HR3.out HB4.out (by decide) y hy)
                have kb := hbt wM rfl HB.out
                have fz : w2.frozen? ⟨wM.heap.size, 3, none⟩ = false := by simp [World.frozen?, k4]
                have yc := heapc k4 (i := 3) (v := .slice ae2 k ce) rfl
                clear x0 x1 x2 x3 x4 x5 x6 x7 y0 y1 y2 y3 y4 y5 y6 y7 HX HB
                go_wp2_with fail
                go_roundw
                case rel =>
                  have v4 := heap_setCell_same w2 wM.heap.size 3 _ 28 (.slice (some ⟨g, 0, none⟩) (k + 1) d) k4
                  have vo := own_set (o := 3) (.slice (some ⟨g, 0, none⟩) (k + 1) d) ho k4 (by decide)
                  have v0 := own_set (o := 3) (.slice (some ⟨g, 0, none⟩) (k + 1) d) o0 k4 (by decide)
                  have v1 := own_set (o := 3) (.slice (some ⟨g, 0, none⟩) (k + 1) d) o1 k4 (by decide)
                  exact ⟨k + 1, some ⟨g, 0, none⟩, d, by omega, by go_num, kb.setCell (Nat.le_refl _) _, Lib.hid v0, Lib.hid v1, Lib.hid (by rw [HTk.out, List.map_append, List.map_cons, List.map_nil, clE_snoc]; first | exact vo | (rw [List.map_take]; exact vo)), Lib.hid v4⟩
                case measure => (simp [intOf]; try omega)
            · obtain rfl : k = q.length := by omega
              have y0 := heapc HB4.out (i := 0) (v := .int .i64 L) rfl
              have y1 := heapc HB4.out (i := 1) (v := .slice aj js.length cj) rfl
              have y2 := heapc HB4.out (i := 2) (v := .slice bs l.length cs) rfl
              have y3 := heapc HB4.out (i := 3) (v := .slice ae2 q.length ce) rfl
              have y4 := heapc HB4.out (i := 4) (v := .int .i64 q0) rfl
              have y5 := heapc HB4.out (i := 5) (v := .int .i64 (-q1)) rfl
              have y6 := heapc HB4.out (i := 6) (v := .int .i64 q2) rfl
              have y7 := heapc HB4.out (i := 7) (v := .int .i64 (L - 1 - q3)) rfl
              have r0 := (hbr.cell (p := ⟨w.heap.size + 1, 0, none⟩) hM2s).trans (heapc HM2.out (i := 0) (v := .int .i64 0) rfl)
              have s0 : wr.frozen? ⟨w.heap.size + 1, 0, none⟩ = false := (hbr.frozen (p := ⟨w.heap.size + 1, 0, none⟩) hM2s).trans (by simp [World.frozen?, HM2.out])
              have r1 := (hbr.cell (p := ⟨w.heap.size + 1, 1, none⟩) hM2s).trans (heapc HM2.out (i := 1) (v := .slice none 0 0) rfl)
              have s1 : wr.frozen? ⟨w.heap.size + 1, 1, none⟩ = false := (hbr.frozen (p := ⟨w.heap.size + 1, 1, none⟩) hM2s).trans (by simp [World.frozen?, HM2.out])
              have r2 := (hbr.cell (p := ⟨w.heap.size + 1, 2, none⟩) hM2s).trans (heapc HM2.out (i := 2) (v := .slice none 0 0) rfl)
              have s2 : wr.frozen? ⟨w.heap.size + 1, 2, none⟩ = false := (hbr.frozen (p := ⟨w.heap.size + 1, 2, none⟩) hM2s).trans (by simp [World.frozen?, HM2.out])
              have r3 := (hbr.cell (p := ⟨w.heap.size + 1, 3, none⟩) hM2s).trans (heapc HM2.out (i := 3) (v := .slice none 0 0) rfl)
              have s3 : wr.frozen? ⟨w.heap.size + 1, 3, none⟩ = false := (hbr.frozen (p := ⟨w.heap.size + 1, 3, none⟩) hM2s).trans (by simp [World.frozen?, HM2.out])
              have r4 := (hbr.cell (p := ⟨w.heap.size + 1, 4, none⟩) hM2s).trans (heapc HM2.out (i := 4) (v := .int .i64 0) rfl)
              have s4 : wr.frozen? ⟨w.heap.size + 1, 4, none⟩ = false := (hbr.frozen (p := ⟨w.heap.size + 1, 4, none⟩) hM2s).trans (by simp [World.frozen?, HM2.out])
              have r5 := (hbr.cell (p := ⟨w.heap.size + 1, 5, none⟩) hM2s).trans (heapc HM2.out (i := 5) (v := .int .i64 0) rfl)
              have s5 : wr.frozen? ⟨w.heap.size + 1, 5, none⟩ = false := (hbr.frozen (p := ⟨w.heap.size + 1, 5, none⟩) hM2s).trans (by simp [World.frozen?, HM2.out])
              have r6 := (hbr.cell (p := ⟨w.heap.size + 1, 6, none⟩) hM2s).trans (heapc HM2.out (i := 6) (v := .int .i64 0) rfl)
              have s6 : wr.frozen? ⟨w.heap.size + 1, 6, none⟩ = false := (hbr.frozen (p := ⟨w.heap.size + 1, 6, none⟩) hM2s).trans (by simp [World.frozen?, HM2.out])
              have r7 := (hbr.cell (p := ⟨w.heap.size + 1, 7, none⟩) hM2s).trans (heapc HM2.out (i := 7) (v := .int .i64 0) rfl)
              have s7 : wr.frozen? ⟨w.heap.size + 1, 7, none⟩ = false := (hbr.frozen (p := ⟨w.heap.size + 1, 7, none⟩) hM2s).trans (by simp [World.frozen?, HM2.out])
              have HR3E : Hid (wr.ownsRow wM.heap.size 82 8 (.slice ae2 q.length ce) q.length (clE (q.map (mE L)))) := Lib.hid (by
                have h9 := HR3.out
                rw [List.take_length] at h9
                exact h9)
              have HBf := Lib.hid hbr
              clear HR3 hlt hbr
              go_wp2_with fail
              obtain ⟨wz, hwz, x0, x1, x2, x3, x4, x5, x6, x7, hbz⟩ := set8 wr (w.heap.size + 1) (.int .i64 L) (.slice aj js.length cj) (.slice bs l.length cs) (.slice ae2 q.length ce) (.int .i64 q0) (.int .i64 (-q1)) (.int .i64 q2) (.int .i64 (L - 1 - q3)) (eight (isSome_of r0) (isSome_of r1) (isSome_of r2) (isSome_of r3) (isSome_of r4) (isSome_of r5) (isSome_of r6) (isSome_of r7))
              have hbF := hbz w.heap.size w (Nat.le_succ _) (HWM.out.trans (HBf.out.mono HWM.out.size))
              have h8 : ∀ {T : TypeId} {K n c : Nat} {a : Option Addr} {xs : List Value}, wr.ownsRow wM.heap.size T K (.slice a n c) n xs → wz.ownsRow wM.heap.size T K (.slice a n c) n xs := fun h => by
                rw [← hwz]
                repeat (refine ownsRow_setCell_below ?_ hM2s _)
                exact h
              have f1 := h8 HR1.out
              have f2 := h8 HR2.out
              have f3 := h8 HR3E.out
              rw [hwz]
              clear hwz hbz r0 s0 y0 r1 s1 y1 r2 s2 y2 r3 s3 y3 r4 s4 y4 r5 s5 y5 r6 s6 y6 r7 s7 y7
              refine bodyPost_ret (v := .agg #[.int .i64 L, .slice aj js.length cj, .slice bs l.length cs, .slice ae2 q.length ce, .int .i64 q0, .int .i64 (-q1), .int .i64 q2, .int .i64 (L - 1 - q3)]) (by simp [results, Tryz.results20, go_sem, x0, x1, x2, x3, x4, x5, x6, x7]) rfl ?_
              refine ⟨aj, cj, bs, cs, ae2, ce, rfl, ?_, ?_, ?_, hbF⟩
              · have hj := HJn.out
                rw [← hj.1] at f1
                exact ints_own f1 (by omega) hj.2
              · rw [← HSn.out] at f2
                have h9 := row_sgn f2 (by have := HSL.out; have := HSn.out; omega) (HP.out.below hbF)
                rw [HM.out, List.take_length] at h9
                exact h9
              · have h9 : wz.ownsRow wM.heap.size 82 8 (.slice ae2 (q.map (mE L)).length ce) (q.map (mE L)).length (clE (q.map (mE L))) := by rw [List.length_map]; exact f3
                exact ownE h9 (by rw [List.length_map]; have := HSL.out; omega)
end Go.Proofs.YtjoffnbpaebgjaaGreat

namespace Go.Proofs.YtjoffnbpaebgjaaGreat
set_option linter.unusedVariables false
set_option linter.unusedSimpArgs false
open Go.RowKit

set_option maxRecDepth 100000 in
set_option maxHeartbeats 1000000 in
theorem sameInts_r (a b : Option Addr) (l : List (Int)) (ca cb : Nat) (w : World) (hA : IntsS w a l) (hB : IntsS w b l) :
    Calls Tryz.prog 15 #[.slice a l.length ca, .slice b l.length cb] w fun e w' => e = .returned (.bool true) ∧ Below w.heap.size w w' := by
  obtain ⟨hlen, -, blk, off, hadr, hc⟩ := hA
  obtain ⟨-, -, blk2, off2, hadr2, hc2⟩ := hB
  have HC := Lib.hid hc
  have HC2 := Lib.hid hc2
  have HL : Hid (0 < l.length → a = some ⟨blk, off, none⟩) := Lib.hid fun h => hadr (List.ne_nil_of_length_pos h)
  have HL2 : Hid (0 < l.length → b = some ⟨blk2, off2, none⟩) := Lib.hid fun h => hadr2 (List.ne_nil_of_length_pos h)
  clear hc hc2 hadr hadr2
  have n4 : ((l.length : Int) != l.length) = false := by simp
  go_enter Tryz.func15, Tryz.ntmps15
  go_wp2_with fail
  go_loopw [5] (fun i wr => ∃ k : Nat, k ≤ l.length ∧ i = .int .i64 k ∧ Below w.heap.size w wr) (fun i _ => l.length - (intOf i).toNat)
  case atStart => exact ⟨0, Nat.zero_le _, rfl, Below.refl _ _⟩
  case round =>
    obtain ⟨k, hk, rfl, hb⟩ := hrel
    by_cases hlt : k < l.length
    · obtain rfl := HL.out (by omega)
      obtain rfl := HL2.out (by omega)
      have x0 := cell_below (HC.out k hlt) hb
      have y0 := cell_below (HC2.out k hlt) hb
      clear HC HC2 HL HL2
      generalize (gi l k) = z0 at *
      have e0 : (z0 != z0) = false := by simp
      have e0b : (z0 == z0) = true := by simp
      have g0 : (0 : Int) ≤ (k : Int) := by omega
      have g1 : (k : Int) < l.length := by omega
      go_wp2_with fail
      go_quiet (fail)
      go_wp2_with fail
      go_roundw
      case rel => exact ⟨k + 1, by omega, by go_num, below_drewN hb _⟩
      case measure => simp [intOf]; omega
    · go_wp2_with fail
      go_ret
      exact ⟨rfl, hb⟩
def TriS (w : World) (a : Option Addr) (l : List (Int × Int × Int)) : Prop :=
  l.length ≤ 9223372036854775807 ∧ ∃ blk off, (l ≠ [] → a = some ⟨blk, off, none⟩) ∧ ∀ i, i < l.length → w.cell? ⟨blk, off + i * 3, none⟩ = some (.int .i64 (gt3 l i).1) ∧ w.cell? ⟨blk, off + i * 3 + 1, none⟩ = some (.int .i64 (gt3 l i).2.1) ∧ w.cell? ⟨blk, off + i * 3 + 2, none⟩ = some (.int .i64 (gt3 l i).2.2)
theorem TriS.below {w w' : World} {a : Option Addr} {l : List (Int × Int × Int)} (h : TriS w a l) (hb : Below w.heap.size w w') : TriS w' a l := by
  obtain ⟨h0, blk, off, h2, h3⟩ := h
  exact ⟨h0, blk, off, h2, fun i hi => by
    have hx := h3 i hi
    exact ⟨cell_below hx.1 hb, cell_below hx.2.1 hb, cell_below hx.2.2 hb⟩⟩
theorem tri_own {w : World} {base c : Nat} {a : Option Addr} {zs : List Tri} {T : TypeId} (h : w.ownsRow base T 3 (.slice a zs.length c) zs.length (cl3 zs)) (hn : zs.length ≤ 9223372036854775807) : TriS w a zs := by
  refine ⟨hn, ?_⟩
  rcases h.2 with ⟨h1, h2⟩ | ⟨g2, c2, cur, h1, _⟩
  · exact ⟨0, 0, (fun hne => absurd (List.eq_nil_of_length_eq_zero h2) hne), fun i hi => by omega⟩
  · obtain ⟨rfl, rfl⟩ : a = some ⟨g2, 0, none⟩ ∧ c = c2 := by simpa using h1
    refine ⟨g2, 0, fun _ => rfl, fun i hi => ?_⟩
    obtain ⟨c0, c1, c2⟩ := cl3_c zs i hi
    rw [Nat.zero_add]
    exact ⟨by rw [World.ownsRow.cellAt h (i * 3) (by omega)]; exact c0, by rw [World.ownsRow.cellAt h (i * 3 + 1) (by omega)]; exact c1, by rw [World.ownsRow.cellAt h (i * 3 + 2) (by omega)]; exact c2⟩
theorem tri_nil (w : World) : TriS w none [] := ⟨by decide, 0, 0, fun h => (h rfl).elim, fun i hi => absurd hi (Nat.not_lt_zero i)⟩
set_option maxRecDepth 100000 in
set_option maxHeartbeats 1000000 in
theorem sameTold_r (a b : Option Addr) (l : List (Int × Int × Int)) (ca cb : Nat) (w : World) (hA : TriS w a l) (hB : TriS w b l) :
    Calls Tryz.prog 16 #[.slice a l.length ca, .slice b l.length cb] w fun e w' => e = .returned (.bool true) ∧ Below w.heap.size w w' := by
  obtain ⟨hlen, blk, off, hadr, hc⟩ := hA
  obtain ⟨-, blk2, off2, hadr2, hc2⟩ := hB
  have HC := Lib.hid hc
  have HC2 := Lib.hid hc2
  have HL : Hid (0 < l.length → a = some ⟨blk, off, none⟩) := Lib.hid fun h => hadr (List.ne_nil_of_length_pos h)
  have HL2 : Hid (0 < l.length → b = some ⟨blk2, off2, none⟩) := Lib.hid fun h => hadr2 (List.ne_nil_of_length_pos h)
  clear hc hc2 hadr hadr2
  have n4 : ((l.length : Int) != l.length) = false := by simp
  go_enter Tryz.func16, Tryz.ntmps16
  go_wp2_with fail
  go_loopw [5] (fun i wr => ∃ k : Nat, k ≤ l.length ∧ i = .int .i64 k ∧ Below w.heap.size w wr) (fun i _ => l.length - (intOf i).toNat)
  case atStart => exact ⟨0, Nat.zero_le _, rfl, Below.refl _ _⟩
  case round =>
    obtain ⟨k, hk, rfl, hb⟩ := hrel
    by_cases hlt : k < l.length
    · obtain rfl := HL.out (by omega)
      obtain rfl := HL2.out (by omega)
      obtain ⟨x0, x1, x2⟩ := HC.out k hlt
      have x0 := cell_below x0 hb
      have x1 := cell_below x1 hb
      have x2 := cell_below x2 hb
      obtain ⟨y0, y1, y2⟩ := HC2.out k hlt
      have y0 := cell_below y0 hb
      have y1 := cell_below y1 hb
      have y2 := cell_below y2 hb
      clear HC HC2 HL HL2
      generalize (gt3 l k).1 = z0 at *
      generalize (gt3 l k).2.1 = z1 at *
      generalize (gt3 l k).2.2 = z2 at *
      have e0 : (z0 != z0) = false := by simp
      have e0b : (z0 == z0) = true := by simp
      have e1 : (z1 != z1) = false := by simp
      have e1b : (z1 == z1) = true := by simp
      have e2 : (z2 != z2) = false := by simp
      have e2b : (z2 == z2) = true := by simp
      have g0 : (0 : Int) ≤ (k : Int) := by omega
      have g1 : (k : Int) < l.length := by omega
      go_wp2_with fail
      go_quiet (fail)
      go_wp2_with fail
      go_roundw
      case rel => exact ⟨k + 1, by omega, by go_num, below_drewN hb _⟩
      case measure => simp [intOf]; omega
    · go_wp2_with fail
      go_ret
      exact ⟨rfl, hb⟩
set_option maxRecDepth 100000 in
set_option maxHeartbeats 1000000 in
theorem sameFaults_r (a b : Option Addr) (l : List (Int × Int)) (ca cb : Nat) (w : World) (hA : PairsS w a l) (hB : PairsS w b l) :
    Calls Tryz.prog 23 #[.slice a l.length ca, .slice b l.length cb] w fun e w' => e = .returned (.bool true) ∧ Below w.heap.size w w' := by
  obtain ⟨hlen, -, blk, off, hadr, hc⟩ := hA
  obtain ⟨-, -, blk2, off2, hadr2, hc2⟩ := hB
  have HC := Lib.hid hc
  have HC2 := Lib.hid hc2
  have HL : Hid (0 < l.length → a = some ⟨blk, off, none⟩) := Lib.hid fun h => hadr (List.ne_nil_of_length_pos h)
  have HL2 : Hid (0 < l.length → b = some ⟨blk2, off2, none⟩) := Lib.hid fun h => hadr2 (List.ne_nil_of_length_pos h)
  clear hc hc2 hadr hadr2
  have n4 : ((l.length : Int) != l.length) = false := by simp
  go_enter Tryz.func23, Tryz.ntmps23
  go_wp2_with fail
  go_loopw [5] (fun i wr => ∃ k : Nat, k ≤ l.length ∧ i = .int .i64 k ∧ Below w.heap.size w wr) (fun i _ => l.length - (intOf i).toNat)
  case atStart => exact ⟨0, Nat.zero_le _, rfl, Below.refl _ _⟩
  case round =>
    obtain ⟨k, hk, rfl, hb⟩ := hrel
    by_cases hlt : k < l.length
    · obtain rfl := HL.out (by omega)
      obtain rfl := HL2.out (by omega)
      obtain ⟨x0, x1⟩ := HC.out k hlt
      have x0 := cell_below x0 hb
      have x1 := cell_below x1 hb
      obtain ⟨y0, y1⟩ := HC2.out k hlt
      have y0 := cell_below y0 hb
      have y1 := cell_below y1 hb
      clear HC HC2 HL HL2
      generalize (gp l k).1 = z0 at *
      generalize (gp l k).2 = z1 at *
      have e0 : (z0 != z0) = false := by simp
      have e0b : (z0 == z0) = true := by simp
      have e1 : (z1 != z1) = false := by simp
      have e1b : (z1 == z1) = true := by simp
      have g0 : (0 : Int) ≤ (k : Int) := by omega
      have g1 : (k : Int) < l.length := by omega
      go_wp2_with fail
      go_quiet (fail)
      go_wp2_with fail
      go_roundw
      case rel => exact ⟨k + 1, by omega, by go_num, below_drewN hb _⟩
      case measure => simp [intOf]; omega
    · go_wp2_with fail
      go_ret
      exact ⟨rfl, hb⟩
end Go.Proofs.YtjoffnbpaebgjaaGreat
