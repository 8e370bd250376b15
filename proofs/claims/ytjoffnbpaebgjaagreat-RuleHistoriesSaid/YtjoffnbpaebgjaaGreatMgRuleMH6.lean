/-
  Rows of signs in order, in memory, and what the second loop of rowOf makes of them. By an AI agent.; The first loop of rowOf of package rule. By an AI agent.; The course of what signs make hold: told and its closure. By an AI agent.; told: the course of what signs make hold. By an AI agent.
-/
import Derived.Test.YtjoffnbpaebgjaaGreatMgRuleMH5
import Derived.Laws.EntriesVeiled
import Derived.Deep.RegionHeld3
import Derived.Deep.AppendLies
import Derived.BigQuiet
import Derived.BigRegion

namespace Go.Proofs.YtjoffnbpaebgjaaGreat
set_option linter.unusedVariables false
set_option linter.unusedSimpArgs false
open Go.RowKit Go.Shelf

/-- Values from the head of a block on, which may be stored to. -/
def CelP (w : World) (g : Nat) (L : List Value) : Prop := ∀ j u, L[j]? = some u → w.cell? ⟨g, j, none⟩ = some u ∧ w.frozen? ⟨g, j, none⟩ = false
theorem CelP.same {w w' : World} {g : Nat} {L : List Value} (h : CelP w g L) (hb : w'.heap[g]? = w.heap[g]?) : CelP w' g L := fun j u hu =>
  ⟨(World.cell?_of_block (w := w) (w' := w') (a := ⟨g, j, none⟩) hb).trans (h j u hu).1, (World.frozen?_of_block (w := w) (w' := w') (a := ⟨g, j, none⟩) hb).trans (h j u hu).2⟩
theorem CelP.below {w w' : World} {g : Nat} {L : List Value} (h : CelP w g L) (hb : Below w.heap.size w w') : CelP w' g L := fun j u hu =>
  ⟨cell_below (h j u hu).1 hb, (hb.frozen (p := ⟨g, j, none⟩) (block_lt (h j u hu).1)).trans (h j u hu).2⟩
theorem CelP.drew {w : World} {g : Nat} {L : List Value} (h : CelP w g L) : CelP w.drew g L := h
theorem CelP.set {w : World} {g : Nat} {L : List Value} (h : CelP w g L) {j : Nat} {v : Value} (hj : j < L.length) : CelP (w.setCell ⟨g, j, none⟩ v) g (L.set j v) := by
  intro i u hu
  rw [List.getElem?_set] at hu
  have hc := (h j L[j] (List.getElem?_eq_getElem hj)).1
  by_cases e : j = i
  · subst e
    simp [hj] at hu
    subst hu
    have hf := (h j L[j] (List.getElem?_eq_getElem hj)).2
    exact ⟨by simp [go_sem, hc], by simp [go_sem, hf]⟩
  · rw [if_neg e] at hu
    obtain ⟨h1, h2⟩ := h i u hu
    refine ⟨?_, ?_⟩
    · rw [World.cell?_setCell_other _ _ _ _ (by intro q; apply e; simpa using congrArg Addr.off q)]; exact h1
    · simpa [go_sem] using h2
theorem clP_c : ∀ (s : List PE) (i : Nat), i < s.length → ∀ c, c < 12 → (clP s)[i * 12 + c]? = (encP s[i]!)[c]?
  | [], i, hi, c, hc => by simp at hi
  | p :: s, 0, hi, c, hc => by
    unfold clP
    rw [List.flatMap_cons, List.getElem?_append_left (by rw [encP_len]; omega), Nat.zero_mul, Nat.zero_add]; rfl
  | p :: s, i + 1, hi, c, hc => by
    have ih := clP_c s i (by simpa using hi) c hc
    unfold clP at *
    rw [List.flatMap_cons, List.getElem?_append_right (by rw [encP_len]; omega), encP_len, show (i + 1) * 12 + c - 12 = i * 12 + c by omega, ih]; rfl
theorem clP_setb : ∀ (s : List PE) (i : Nat) (b : Bool), i < s.length → (clP s).set (i * 12 + 11) (.bool b) = clP (s.set i ({ s[i]!.1 with b := b }, s[i]!.2))
  | [], i, b, hi => by simp at hi
  | p :: s, 0, b, hi => by simp [clP, encP]
  | p :: s, i + 1, b, hi => by
    have ih := clP_setb s i b (by simpa using hi)
    unfold clP at *
    rw [List.flatMap_cons, List.set_append_right _ _ (by rw [encP_len]; omega), encP_len, show (i + 1) * 12 + 11 - 12 = i * 12 + 11 by omega, ih]
    rfl
theorem clP_setu : ∀ (s : List PE) (i : Nat) (u : Int), i < s.length → (clP s).set (i * 12 + 10) (.int .i64 u) = clP (s.set i ({ s[i]!.1 with u := u }, s[i]!.2))
  | [], i, u, hi => by simp at hi
  | p :: s, 0, u, hi => by simp [clP, encP]
  | p :: s, i + 1, u, hi => by
    have ih := clP_setu s i u (by simpa using hi)
    unfold clP at *
    rw [List.flatMap_cons, List.set_append_right _ _ (by rw [encP_len]; omega), encP_len, show (i + 1) * 12 + 10 - 12 = i * 12 + 10 by omega, ih]
    rfl
theorem celP_holds {w : World} {g : Nat} {d : Array PE} (h : Sort.HoldsK encP 12 w g 0 d) : CelP w g (clP d.toList) := by
  intro j u hu
  have hj : j < d.size * 12 := by
    have := (List.getElem?_eq_some_iff.1 hu).1
    rw [clP_len] at this
    simpa using this
  have h9 := h j (by rw [Sort.size_flatK]; exact hj)
  rw [Sort.get_flatK _ _ _ _ hj, Nat.zero_add] at h9
  rw [clP_get d.toList j (by simpa using hj)] at hu
  have e : d[j / 12]! = d.toList[j / 12]! := by
    have hd : j / 12 < d.size := by omega
    rw [getElem!_pos _ (j / 12) hd, getElem!_pos _ (j / 12) (by simpa using hd)]; simp
  rw [← e] at hu
  simp only [Option.some.injEq] at hu
  rw [← hu]
  exact h9
/-- Is y a plate of the start x? -/
def cndP (x y : Pst) : Bool := (topK x.s.k != 0) && ((y.s.k == 7) && (y.d == x.d))
/-- What t steps of the second loop leave of the row: a step looks at neighbours j, j + 1. -/
def finP (s : List PE) : Nat → List PE
  | 0 => s
  | t + 1 => if cndP (finP s t)[t]!.1 (finP s t)[t + 1]!.1 = true then
      ((finP s t).set (t + 1) ({ (finP s t)[t + 1]!.1 with b := true }, (finP s t)[t + 1]!.2)).set t ({ (finP s t)[t]!.1 with u := min (finP s t)[t]!.1.u ((finP s t)[t]!.1.d + (finP s t)[t + 1]!.1.s.v) }, (finP s t)[t]!.2)
    else finP s t
theorem finP_len (s : List PE) : ∀ t, (finP s t).length = s.length
  | 0 => rfl
  | t + 1 => by rw [finP]; split <;> simp [finP_len s t]
/-- slices.SortFunc's answer at a row that a call owns. -/
def SrtE (base : Nat) (av : Option Addr) (R : List PE) (w : World) (e : Ending) (w' : World) : Prop :=
  e = .returned (.tuple #[]) ∧ ∃ l1 : List PE, l1.Perm R ∧ (∀ i j, i < j → j < l1.length → ¬ ahdP l1[j]!.1 l1[i]!.1) ∧ (∀ g, av = some ⟨g, 0, none⟩ → base ≤ g ∧ CelP w' g (clP l1)) ∧ Below base w w'
theorem sortRow_r (base B Fb cv : Nat) (av : Option Addr) (R : List PE) (w : World) (h : w.ownsRow base 88 12 (.slice av R.length cv) R.length (clP R)) (hn : R.length ≤ 100000000) (cB : w.cell? ⟨B, 0, none⟩ = some (.slice (some ⟨Fb, 0, none⟩) 3 3))
    (f0 : w.cell? ⟨Fb, 0, none⟩ = some (.func (.func 65) #[] #[])) (f1 : w.cell? ⟨Fb, 1, none⟩ = some (.func (.func 66) #[] #[])) (f2 : w.cell? ⟨Fb, 2, none⟩ = some (.func (.func 67) #[] #[])) (hB : ∀ g, av = some ⟨g, 0, none⟩ → B ≠ g ∧ Fb ≠ g) :
    Calls Tryz.prog 63 #[.slice av R.length cv, .func (.func 98) #[] #[.pointer (some ⟨B, 0, none⟩)]] w (SrtE base av R w) := by
  rcases h.2 with ⟨h1, h2⟩ | ⟨g, cap, cur, h1, hg, _⟩
  · have ha : av = none := by simpa using (Value.slice.inj h1).1
    have hR : R = [] := List.eq_nil_of_length_eq_zero h2
    subst ha; subst hR
    exact (sortPNil_r cv _ w).mono fun e w' ⟨he, hw⟩ => ⟨he, [], List.Perm.refl _, (fun i j _ hj => absurd hj (Nat.not_lt_zero _)), (fun g hg => by cases hg), (by rw [hw]; exact Below.refl _ _)⟩
  · obtain ⟨rfl, rfl⟩ : av = some ⟨g, 0, none⟩ ∧ cv = cap := by simpa using h1
    obtain ⟨b1, b2⟩ := hB g rfl
    refine (sortP_r base g cv B Fb R w h hn cB f0 f1 f2 b1 b2).mono ?_
    rintro e w' ⟨he, d, hp, hs, hso, hh, hb⟩
    refine ⟨he, d.toList, hp, fun i j hij hj => ?_, fun g' hg' => ?_, hb⟩
    · have hj2 : j < d.size := by simpa using hj
      have := hso i j hij hj2
      rw [getElem!_pos _ j hj2, getElem!_pos _ i (by omega)] at this
      rw [getElem!_pos _ j hj, getElem!_pos _ i (by omega)]
      simpa using this
    · cases hg'
      exact ⟨hg, celP_holds hh⟩
/-- by: a closure over the list of functions. -/
theorem by0_r (Fb : Nat) (w : World) : Calls Tryz.prog 64 #[.slice (some ⟨Fb, 0, none⟩) 3 3] w fun e w' => ∃ B, e = .returned (.func (.func 98) #[] #[.pointer (some ⟨B, 0, none⟩)]) ∧ w.heap.size ≤ B ∧ w'.cell? ⟨B, 0, none⟩ = some (.slice (some ⟨Fb, 0, none⟩) 3 3) ∧ Below w.heap.size w w' := by
  go_enter Tryz.func64, Tryz.ntmps64
  go_wp2_with fail
  go_ret
  exact ⟨w.heap.size, rfl, Nat.le_refl _, by simp [go_sem], (Below.refl _ _).alloc (Nat.le_refl _) _⟩
/-- What a walk wants of one element. -/
theorem celP_fields {w : World} {g : Nat} {s : List PE} (h : CelP w g (clP s)) {j : Nat} (hj : j < s.length) :
    w.cell? ⟨g, j * 12 + 1, none⟩ = some (.int .i64 s[j]!.1.s.k) ∧ w.cell? ⟨g, j * 12 + 2, none⟩ = some (.int .i64 s[j]!.1.s.v) ∧ w.cell? ⟨g, j * 12 + 9, none⟩ = some (.int .i64 s[j]!.1.d) ∧ w.cell? ⟨g, j * 12 + 10, none⟩ = some (.int .i64 s[j]!.1.u) ∧ w.cell? ⟨g, j * 12 + 11, none⟩ = some (.bool s[j]!.1.b) ∧
      w.frozen? ⟨g, j * 12 + 10, none⟩ = false ∧ w.frozen? ⟨g, j * 12 + 11, none⟩ = false := by
  have hc := clP_c s j hj
  exact ⟨(h _ _ (hc 1 (by omega))).1, (h _ _ (hc 2 (by omega))).1, (h _ _ (hc 9 (by omega))).1, (h _ _ (hc 10 (by omega))).1, (h _ _ (hc 11 (by omega))).1, (h _ _ (hc 10 (by omega))).2, (h _ _ (hc 11 (by omega))).2⟩
theorem set_same {α : Type} [Inhabited α] (s : List α) {i : Nat} (x : α) (hi : i < s.length) : (s.set i x)[i]! = x := by
  rw [getElem!_pos _ i (by simpa using hi)]; simp
theorem set_other {α : Type} [Inhabited α] (s : List α) {i j : Nat} (x : α) (h : i ≠ j) : (s.set i x)[j]! = s[j]! := by
  by_cases hj : j < s.length
  · rw [getElem!_pos _ j (by simpa using hj), getElem!_pos _ j hj]; simp [h]
  · rw [getElem!_neg _ j (by simpa using hj), getElem!_neg _ j hj]
/-- The second loop leaves the signs, their distances and the lists of covers. -/
theorem finP_keeps (s : List PE) : ∀ (t i : Nat), t < s.length → (finP s t)[i]!.1.s = s[i]!.1.s ∧ (finP s t)[i]!.1.d = s[i]!.1.d ∧ (finP s t)[i]!.2 = s[i]!.2
  | 0, i, _ => ⟨rfl, rfl, rfl⟩
  | t + 1, i, ht => by
    have ih := finP_keeps s t
    have hl := finP_len s t
    rw [finP]
    split
    · by_cases e : t = i
      · subst e
        rw [set_same _ _ (by simp; omega)]
        exact ih t (by omega)
      · rw [set_other _ _ e]
        by_cases e2 : t + 1 = i
        · subst e2
          rw [set_same _ _ (by omega)]
          exact ih (t + 1) (by omega)
        · rw [set_other _ _ e2]; exact ih i (by omega)
    · exact ih i (by omega)
theorem pst_of {w : World} {g : Nat} {s : List PE} (h : CelP w g (clP s)) (hn : s.length ≤ 100000000) (hp : ∀ i, i < s.length → PairsS w s[i]!.2.1 s[i]!.1.s.cv) : PstS w (some ⟨g, 0, none⟩) (s.map (·.1)) := by
  refine ⟨by simpa using hn, g, 0, fun i => s[i]!.2.1, fun i => s[i]!.2.2, fun _ => rfl, fun i hi => ?_⟩
  have hi2 : i < s.length := by simpa using hi
  have e : gq (s.map (·.1)) i = s[i]!.1 := by
    unfold gq
    rw [List.getD_eq_getElem?_getD, List.getElem?_map, List.getElem?_eq_getElem hi2, getElem!_pos _ i hi2]; rfl
  rw [e, Nat.zero_add]
  have hc := clP_c s i hi2
  refine ⟨⟨⟨?_, (h _ _ (hc 1 (by omega))).1, (h _ _ (hc 2 (by omega))).1, (h _ _ (hc 3 (by omega))).1, (h _ _ (hc 4 (by omega))).1, (h _ _ (hc 5 (by omega))).1, (h _ _ (hc 6 (by omega))).1, (h _ _ (hc 7 (by omega))).1⟩, (h _ _ (hc 8 (by omega))).1, (h _ _ (hc 9 (by omega))).1, (h _ _ (hc 10 (by omega))).1, (h _ _ (hc 11 (by omega))).1⟩, hp i hi2⟩
  exact (h _ _ (hc 0 (by omega))).1
end Go.Proofs.YtjoffnbpaebgjaaGreat

namespace Go.Proofs.YtjoffnbpaebgjaaGreat
set_option linter.unusedVariables false
set_option linter.unusedSimpArgs false
open Go.RowKit

theorem infoP : (Tryz.prog.info? 88).map (fun i => (i.zero, i.size, i.bytes)) = some (some (.agg #[.int .i64 0, .int .i64 0, .int .i64 0, .int .i64 0, .int .i64 0, .int .i64 0, .int .i64 0, .int .i64 0, .slice none 0 0, .int .i64 0, .int .i64 0, .bool false]), 12, 112) := by kernel_rfl
/-- Is a sign of the row? -/
def selB (dir h : Int) (s : Sgn) : Bool := (s.d == dir) && spkB s h
def mkP (L : Int) (js : List Int) (dir : Int) (s : Sgn) : Pst := ⟨s, dstK L dir s.c, opnK L js dir (dstK L dir s.c) js.length, false⟩
/-- The row of the first k signs, not yet in order. -/
def rowK (L : Int) (js : List Int) (dir h : Int) (l : List Sgn) (ad : Nat → Option Addr) (cp : Nat → Nat) : Nat → List PE
  | 0 => []
  | k + 1 => if selB dir h (gs l k) = true then rowK L js dir h l ad cp k ++ [(mkP L js dir (gs l k), ad k, cp k)] else rowK L js dir h l ad cp k
theorem rowK_len (L : Int) (js : List Int) (dir h : Int) (l : List Sgn) (ad : Nat → Option Addr) (cp : Nat → Nat) : ∀ k, (rowK L js dir h l ad cp k).length ≤ k
  | 0 => Nat.le_refl _
  | k + 1 => by
    have := rowK_len L js dir h l ad cp k
    rw [rowK]; split
    · simp; omega
    · omega
theorem rowK_mem (L : Int) (js : List Int) (dir h : Int) (l : List Sgn) (ad : Nat → Option Addr) (cp : Nat → Nat) (x : PE) : ∀ k, x ∈ rowK L js dir h l ad cp k → ∃ j, j < k ∧ x = (mkP L js dir (gs l j), ad j, cp j)
  | 0, hx => by simp [rowK] at hx
  | k + 1, hx => by
    rw [rowK] at hx
    split at hx
    · rw [List.mem_append] at hx
      rcases hx with hx | hx
      · obtain ⟨j, hj, e⟩ := rowK_mem L js dir h l ad cp x k hx
        exact ⟨j, by omega, e⟩
      · exact ⟨k, by omega, by simpa using hx⟩
    · obtain ⟨j, hj, e⟩ := rowK_mem L js dir h l ad cp x k hx
      exact ⟨j, by omega, e⟩
/-- A row comes back: the signs that speak, in order, and what the second loop has made of them. -/
def RowE (L : Int) (js : List Int) (dir h : Int) (l : List Sgn) (w : World) (e : Ending) (w' : World) : Prop :=
  ∃ (ad : Nat → Option Addr) (cp : Nat → Nat) (l1 : List PE) (a : Option Addr) (c : Nat), l1.Perm (rowK L js dir h l ad cp l.length) ∧ (∀ i j, i < j → j < l1.length → ¬ ahdP l1[j]!.1 l1[i]!.1) ∧
    e = .returned (.slice a l1.length c) ∧ PstS w' a ((finP l1 (l1.length - 1)).map (·.1)) ∧ Below w.heap.size w w'
set_option maxRecDepth 100000 in
set_option maxHeartbeats 4000000 in
theorem rowOf_r (L : Int) (a : Option Addr) (js : List Int) (ca : Nat) (aa : Option Addr) (l : List Sgn) (cl : Nat) (h dir : Int) (hL1 : 0 ≤ L) (hL2 : L ≤ 100000) (hJ : ∀ j, j < js.length → 0 ≤ gi js j ∧ gi js j ≤ 100000) (hC : ∀ j, j < l.length → 0 ≤ (gs l j).c ∧ (gs l j).c ≤ 100000 ∧ -1000000 ≤ (gs l j).v ∧ (gs l j).v ≤ 1000000) (hn : l.length ≤ 1000) (w : World) (hI : IntsS w a js) (hA : SgnS w aa l) :
    Calls Tryz.prog 34 #[.agg #[.int .i64 L, .slice a js.length ca], .slice aa l.length cl, .int .i64 h, .int .i64 dir] w (RowE L js dir h l w) := by
  obtain ⟨hlen, blk, off, ad, cp, hadr, hc⟩ := hA
  have HC := Lib.hid hc
  have HI := Lib.hid hI
  have HL : Hid (0 < l.length → aa = some ⟨blk, off, none⟩) := Lib.hid fun h => hadr (pos_ne (n := 0) h)
  have HJ := Lib.hid hJ
  have HCh := Lib.hid hC
  obtain ⟨n0, hi, hz0, hz1, hz2⟩ := info_parts infoP
  clear hc hadr hI hJ hC
  go_enter Tryz.func34, Tryz.ntmps34
  go_wp2_with fail
  obtain ⟨wo, hwo⟩ : ∃ wo, w.alloc (.cells #[.int .i64 L, .slice a js.length ca] 24) = wo := ⟨_, rfl⟩
  have hbo : Below w.heap.size w wo := by rw [← hwo]; exact (Below.refl _ _).alloc (Nat.le_refl _) _
  have p0 : wo.cell? ⟨w.heap.size, 0, none⟩ = some (.int .i64 L) := by rw [← hwo]; simp [go_sem]
  have p1 : wo.cell? ⟨w.heap.size, 1, none⟩ = some (.slice a js.length ca) := by rw [← hwo]; simp [go_sem]
  rw [hwo]
  clear hwo
  have P0 := Lib.hid p0
  have P1 := Lib.hid p1
  clear p0 p1
  go_loopw [9, 18] (fun q i wr => ∃ k : Nat, k ≤ l.length ∧ i = .int .i64 k ∧ (∃ a c, q = .slice a (rowK L js dir h l ad cp k).length c) ∧ Hid (wr.ownsRow wo.heap.size 88 12 q (rowK L js dir h l ad cp k).length (clP (rowK L js dir h l ad cp k))) ∧ Below wo.heap.size wo wr) (fun _ i _ => l.length - (intOf i).toNat)
  case atStart => exact ⟨0, Nat.zero_le _, rfl, ⟨none, 0, rfl⟩, Lib.hid ⟨rfl, .inl ⟨rfl, rfl⟩⟩, Below.refl _ _⟩
  case round =>
    obtain ⟨k, hk, rfl, ⟨av, cv, rfl⟩, HRow, hbr⟩ := hrel
    have hbw := below_onR hbo hbr
    have hRl := rowK_len L js dir h l ad cp k
    by_cases hlt : k < l.length
    · obtain rfl := HL.out (by omega)
      obtain ⟨⟨c0, c1, c2, c3, c4, c5, c6, c7⟩, c8, hpr⟩ := HC.out k hlt
      have c0 := cell_below c0 hbw
      have c1 := cell_below c1 hbw
      have c2 := cell_below c2 hbw
      have c3 := cell_below c3 hbw
      have c4 := cell_below c4 hbw
      have c5 := cell_below c5 hbw
      have c6 := cell_below c6 hbw
      have c7 := cell_below c7 hbw
      have c8 := cell_below c8 hbw
      have hcc := HCh.out k hlt
      have HN : Hid (rowK L js dir h l ad cp (k + 1) = if selB dir h (gs l k) = true then rowK L js dir h l ad cp k ++ [(mkP L js dir (gs l k), ad k, cp k)] else rowK L js dir h l ad cp k) := Lib.hid rfl
      have HSel : Hid (selB dir h (gs l k) = (((gs l k).d == dir) && spkB (gs l k) h)) := Lib.hid rfl
      have HMk : Hid (mkP L js dir (gs l k) = ⟨gs l k, dstK L dir (gs l k).c, opnK L js dir (dstK L dir (gs l k).c) js.length, false⟩) := Lib.hid rfl
      have HSp := Lib.hid (fun W (hW : Below w.heap.size w W) => Speaks_r (gs l k) (ad k) (cp k) h W (hpr.below hW))
      have HDi := Lib.hid (fun W => distance_r L a js.length ca dir (gs l k).c hL1 hL2 (by omega) (by omega) W)
      have HOp := Lib.hid (fun W (hW : Below w.heap.size w W) => openUntil_r L a js ca dir (dstK L dir (gs l k).c) hL1 hL2 HJ.out W (HI.out.below hW))
      clear HC HL HCh HI HJ hpr hcc
      obtain ⟨R, hR⟩ : ∃ R, rowK L js dir h l ad cp k = R := ⟨_, rfl⟩
      rw [hR] at HN HRow hRl ⊢
      clear hR
      obtain ⟨s, hs⟩ : ∃ s, gs l k = s := ⟨_, rfl⟩
      rw [hs] at HN HSel HMk HSp HDi HOp c0 c1 c2 c3 c4 c5 c6 c7 c8
      clear hs
      generalize ad k = adk at *
      generalize cp k = cpk at *
      have hbs := hbr.size
      have HNe : Hid (some wr.heap.size ≠ (Value.slice av R.length cv).ownBlock) := Lib.hid fun e => by
        rcases HRow.out.2 with ⟨h1, _⟩ | ⟨g2, c2, cur, h1, h2, h3, _⟩
        · rw [h1] at e; simp [Value.ownBlock] at e
        · rw [h1] at e; simp [Value.ownBlock] at e
          have := (Array.getElem?_eq_some_iff.1 h3).1
          omega
      have hbB : Below wo.heap.size wo (wr.alloc (.cells #[.int .i64 s.n, .int .i64 s.k, .int .i64 s.v, .int .i64 s.c, .int .i64 s.d, .int .i64 s.rk, .int .i64 s.up, .int .i64 s.dn, .slice adk s.cv.length cpk] 58)) := hbr.alloc hbs _
      have HRow := Lib.hid (HRow.out.alloc (.cells #[.int .i64 s.n, .int .i64 s.k, .int .i64 s.v, .int .i64 s.c, .int .i64 s.d, .int .i64 s.rk, .int .i64 s.up, .int .i64 s.dn, .slice adk s.cv.length cpk] 58))
      have hzB : wr.heap.size < (wr.alloc (.cells #[.int .i64 s.n, .int .i64 s.k, .int .i64 s.v, .int .i64 s.c, .int .i64 s.d, .int .i64 s.rk, .int .i64 s.up, .int .i64 s.dn, .slice adk s.cv.length cpk] 58)).heap.size := by simp
      have s0 : (wr.alloc (.cells #[.int .i64 s.n, .int .i64 s.k, .int .i64 s.v, .int .i64 s.c, .int .i64 s.d, .int .i64 s.rk, .int .i64 s.up, .int .i64 s.dn, .slice adk s.cv.length cpk] 58)).cell? ⟨wr.heap.size, 0, none⟩ = some (.int .i64 s.n) := by simp [go_sem]
      have s1 : (wr.alloc (.cells #[.int .i64 s.n, .int .i64 s.k, .int .i64 s.v, .int .i64 s.c, .int .i64 s.d, .int .i64 s.rk, .int .i64 s.up, .int .i64 s.dn, .slice adk s.cv.length cpk] 58)).cell? ⟨wr.heap.size, 1, none⟩ = some (.int .i64 s.k) := by simp [go_sem]
      have s2 : (wr.alloc (.cells #[.int .i64 s.n, .int .i64 s.k, .int .i64 s.v, .int .i64 s.c, .int .i64 s.d, .int .i64 s.rk, .int .i64 s.up, .int .i64 s.dn, .slice adk s.cv.length cpk] 58)).cell? ⟨wr.heap.size, 2, none⟩ = some (.int .i64 s.v) := by simp [go_sem]
      have s3 : (wr.alloc (.cells #[.int .i64 s.n, .int .i64 s.k, .int .i64 s.v, .int .i64 s.c, .int .i64 s.d, .int .i64 s.rk, .int .i64 s.up, .int .i64 s.dn, .slice adk s.cv.length cpk] 58)).cell? ⟨wr.heap.size, 3, none⟩ = some (.int .i64 s.c) := by simp [go_sem]
      have s4 : (wr.alloc (.cells #[.int .i64 s.n, .int .i64 s.k, .int .i64 s.v, .int .i64 s.c, .int .i64 s.d, .int .i64 s.rk, .int .i64 s.up, .int .i64 s.dn, .slice adk s.cv.length cpk] 58)).cell? ⟨wr.heap.size, 4, none⟩ = some (.int .i64 s.d) := by simp [go_sem]
      have s5 : (wr.alloc (.cells #[.int .i64 s.n, .int .i64 s.k, .int .i64 s.v, .int .i64 s.c, .int .i64 s.d, .int .i64 s.rk, .int .i64 s.up, .int .i64 s.dn, .slice adk s.cv.length cpk] 58)).cell? ⟨wr.heap.size, 5, none⟩ = some (.int .i64 s.rk) := by simp [go_sem]
      have s6 : (wr.alloc (.cells #[.int .i64 s.n, .int .i64 s.k, .int .i64 s.v, .int .i64 s.c, .int .i64 s.d, .int .i64 s.rk, .int .i64 s.up, .int .i64 s.dn, .slice adk s.cv.length cpk] 58)).cell? ⟨wr.heap.size, 6, none⟩ = some (.int .i64 s.up) := by simp [go_sem]
      have s7 : (wr.alloc (.cells #[.int .i64 s.n, .int .i64 s.k, .int .i64 s.v, .int .i64 s.c, .int .i64 s.d, .int .i64 s.rk, .int .i64 s.up, .int .i64 s.dn, .slice adk s.cv.length cpk] 58)).cell? ⟨wr.heap.size, 7, none⟩ = some (.int .i64 s.dn) := by simp [go_sem]
      have s8 : (wr.alloc (.cells #[.int .i64 s.n, .int .i64 s.k, .int .i64 s.v, .int .i64 s.c, .int .i64 s.d, .int .i64 s.rk, .int .i64 s.up, .int .i64 s.dn, .slice adk s.cv.length cpk] 58)).cell? ⟨wr.heap.size, 8, none⟩ = some (.slice adk s.cv.length cpk) := by simp [go_sem]
      have p0 := cell_below P0.out hbB
      have p1 := cell_below P1.out hbB
      obtain ⟨wB, hwB⟩ : ∃ wB, wr.alloc (.cells #[.int .i64 s.n, .int .i64 s.k, .int .i64 s.v, .int .i64 s.c, .int .i64 s.d, .int .i64 s.rk, .int .i64 s.up, .int .i64 s.dn, .slice adk s.cv.length cpk] 58) = wB := ⟨_, rfl⟩
      rw [hwB] at hbB HRow hzB s0 s1 s2 s3 s4 s5 s6 s7 s8 p0 p1
      by_cases hd : s.d = dir
      · have bd : (s.d == dir) = true := by simp [hd]
        clear hd
        have hzl := block_lt p0
        cases hsp : spkB s h with
        | false =>
          rw [hsp] at HSp
          have HNn : Hid (rowK L js dir h l ad cp (k + 1) = R) := Lib.hid (by rw [HN.out, if_neg (by rw [HSel.out, hsp]; simp)])
          clear HN HSel HMk HDi HOp
          go_wp2_with (go_at_call 60; refine (HSp.out _ (below_onR hbo hbB)).mono ?_; rintro e w7 ⟨rfl, hb7⟩)
          go_roundw
          case rel => exact ⟨k + 1, by omega, by go_num, ⟨_, cv, by rw [HNn.out]⟩, Lib.hid (by rw [HNn.out]; exact owns_belowI HRow.out hb7), hbB.trans (hb7.mono hbB.size)⟩
          case measure => simp [intOf]; omega
        | true =>
          rw [hsp] at HSp
          have HNn : Hid (rowK L js dir h l ad cp (k + 1) = R ++ [(mkP L js dir s, adk, cpk)]) := Lib.hid (by rw [HN.out, if_pos (by rw [HSel.out, hsp, bd]; rfl)])
          have HE : Hid (clP (rowK L js dir h l ad cp (k + 1)) = clP R ++ [.int .i64 s.n, .int .i64 s.k, .int .i64 s.v, .int .i64 s.c, .int .i64 s.d, .int .i64 s.rk, .int .i64 s.up, .int .i64 s.dn, .slice adk s.cv.length cpk, .int .i64 (dstK L dir s.c), .int .i64 (opnK L js dir (dstK L dir s.c) js.length), .bool false] ∧ (rowK L js dir h l ad cp (k + 1)).length = R.length + 1) := Lib.hid (by rw [HNn.out, clP_app, HMk.out]; exact ⟨rfl, by simp⟩)
          clear HN HSel HMk HNn
          generalize opnK L js dir (dstK L dir s.c) js.length = U at *
          generalize dstK L dir s.c = D at *
          go_wp2_with (first
            | (go_at_call 60
               refine (HSp.out _ (below_onR hbo hbB)).mono ?_
               rintro e w9 ⟨rfl, hb9⟩
               have hzs := hzB
               have s0 := (hb9.cell (p := ⟨wr.heap.size, 0, none⟩) hzs).trans s0
               have s1 := (hb9.cell (p := ⟨wr.heap.size, 1, none⟩) hzs).trans s1
               have s2 := (hb9.cell (p := ⟨wr.heap.size, 2, none⟩) hzs).trans s2
               have s3 := (hb9.cell (p := ⟨wr.heap.size, 3, none⟩) hzs).trans s3
               have s4 := (hb9.cell (p := ⟨wr.heap.size, 4, none⟩) hzs).trans s4
               have s5 := (hb9.cell (p := ⟨wr.heap.size, 5, none⟩) hzs).trans s5
               have s6 := (hb9.cell (p := ⟨wr.heap.size, 6, none⟩) hzs).trans s6
               have s7 := (hb9.cell (p := ⟨wr.heap.size, 7, none⟩) hzs).trans s7
               have s8 := (hb9.cell (p := ⟨wr.heap.size, 8, none⟩) hzs).trans s8
               have p0 := (hb9.cell (p := ⟨w.heap.size, 0, none⟩) hzl).trans p0
               have p1 := (hb9.cell (p := ⟨w.heap.size, 1, none⟩) hzl).trans p1
               have hbB := hbB.trans (hb9.mono hbB.size)
               have HRow := Lib.hid (owns_belowI HRow.out hb9)
               have hzB := Nat.lt_of_lt_of_le hzB hb9.size
               have hzl := Nat.lt_of_lt_of_le hzl hb9.size)
            | (go_at_call 61
               refine (HDi.out _).mono ?_
               rintro e w9 ⟨rfl, hb9⟩
               have hzs := hzB
               have s0 := (hb9.cell (p := ⟨wr.heap.size, 0, none⟩) hzs).trans s0
               have s1 := (hb9.cell (p := ⟨wr.heap.size, 1, none⟩) hzs).trans s1
               have s2 := (hb9.cell (p := ⟨wr.heap.size, 2, none⟩) hzs).trans s2
               have s3 := (hb9.cell (p := ⟨wr.heap.size, 3, none⟩) hzs).trans s3
               have s4 := (hb9.cell (p := ⟨wr.heap.size, 4, none⟩) hzs).trans s4
               have s5 := (hb9.cell (p := ⟨wr.heap.size, 5, none⟩) hzs).trans s5
               have s6 := (hb9.cell (p := ⟨wr.heap.size, 6, none⟩) hzs).trans s6
               have s7 := (hb9.cell (p := ⟨wr.heap.size, 7, none⟩) hzs).trans s7
               have s8 := (hb9.cell (p := ⟨wr.heap.size, 8, none⟩) hzs).trans s8
               have p0 := (hb9.cell (p := ⟨w.heap.size, 0, none⟩) hzl).trans p0
               have p1 := (hb9.cell (p := ⟨w.heap.size, 1, none⟩) hzl).trans p1
               have hbB := hbB.trans (hb9.mono hbB.size)
               have HRow := Lib.hid (owns_belowI HRow.out hb9)
               have hzB := Nat.lt_of_lt_of_le hzB hb9.size
               have hzl := Nat.lt_of_lt_of_le hzl hb9.size))

          have hzl0 : w.heap.size < wo.heap.size := by have := block_lt P0.out; exact this
          obtain ⟨ws, rfl⟩ : ∃ wz : World, wz = w9 := ⟨_, rfl⟩
          refine wp_region_held_drew (S := fun w' => Below wo.heap.size ws w' ∧ w'.heap[wr.heap.size]? = ws.heap[wr.heap.size]?) (by kernel_rfl) ⟨(Below.refl _ _).drew, rfl⟩ (fun hHeld => ?_)
          refine takeU (i := 0) (some 36) (.slice av R.length cv) (by kernel_rfl) (by kernel_rfl) (by kernel_rfl) (by kernel_rfl) (by kernel_rfl) (fun _ => by kernel_rfl) (fun _ _ _ h => h) hHeld ?_
          refine wpAnyH_take (i := 1) (oi := { dst := some 37, op := Go.Op.load 58 (Go.Operand.tmp 11), type := 58, pos := "row.go:44", after := #[], guard := none }) (v := .agg #[.int .i64 s.n, .int .i64 s.k, .int .i64 s.v, .int .i64 s.c, .int .i64 s.d, .int .i64 s.rk, .int .i64 s.up, .int .i64 s.dn, .slice adk s.cv.length cpk]) rfl (by kernel_rfl) (by kernel_rfl) (by kernel_rfl) (fun _ _ _ h => h) (.inl ⟨by kernel_rfl, fun w9 h9 => by
            clear hHeld
            have d0 := (World.cell?_of_block (w := ws) (w' := w9) (a := ⟨wr.heap.size, 0, none⟩) h9.2).trans s0
            have d1 := (World.cell?_of_block (w := ws) (w' := w9) (a := ⟨wr.heap.size, 1, none⟩) h9.2).trans s1
            have d2 := (World.cell?_of_block (w := ws) (w' := w9) (a := ⟨wr.heap.size, 2, none⟩) h9.2).trans s2
            have d3 := (World.cell?_of_block (w := ws) (w' := w9) (a := ⟨wr.heap.size, 3, none⟩) h9.2).trans s3
            have d4 := (World.cell?_of_block (w := ws) (w' := w9) (a := ⟨wr.heap.size, 4, none⟩) h9.2).trans s4
            have d5 := (World.cell?_of_block (w := ws) (w' := w9) (a := ⟨wr.heap.size, 5, none⟩) h9.2).trans s5
            have d6 := (World.cell?_of_block (w := ws) (w' := w9) (a := ⟨wr.heap.size, 6, none⟩) h9.2).trans s6
            have d7 := (World.cell?_of_block (w := ws) (w' := w9) (a := ⟨wr.heap.size, 7, none⟩) h9.2).trans s7
            have d8 := (World.cell?_of_block (w := ws) (w' := w9) (a := ⟨wr.heap.size, 8, none⟩) h9.2).trans s8
            clear h9
            go_simp⟩) hHeld ?_
          refine takeU (i := 2) (some 38) (.int .i64 D) (by kernel_rfl) (by kernel_rfl) (by kernel_rfl) (by kernel_rfl) (by kernel_rfl) (fun _ => by kernel_rfl) (fun _ _ _ h => h) hHeld ?_
          refine wpAnyH_take (i := 3) (oi := { dst := some 39, op := Go.Op.load 24 (Go.Operand.tmp 4), type := 24, pos := "row.go:44", after := #[], guard := none }) (v := .agg #[.int .i64 L, .slice a js.length ca]) rfl (by kernel_rfl) (by kernel_rfl) (by kernel_rfl) (fun _ _ _ h => h) (.inl ⟨by kernel_rfl, fun w9 h9 => by
            clear hHeld
            have d0 := (h9.1.cell (p := ⟨w.heap.size, 0, none⟩) hzl0).trans p0
            have d1 := (h9.1.cell (p := ⟨w.heap.size, 1, none⟩) hzl0).trans p1
            clear h9
            go_simp⟩) hHeld ?_
          refine takeU (i := 4) (some 40) (.int .i64 dir) (by kernel_rfl) (by kernel_rfl) (by kernel_rfl) (by kernel_rfl) (by kernel_rfl) (fun _ => by kernel_rfl) (fun _ _ _ h => h) hHeld ?_
          refine takeU (i := 5) (some 41) (.int .i64 D) (by kernel_rfl) (by kernel_rfl) (by kernel_rfl) (by kernel_rfl) (by kernel_rfl) (fun _ => by kernel_rfl) (fun _ _ _ h => h) hHeld ?_
          try simp only [Act.put, List.setIfInBounds_toArray, List.set_cons_zero, List.set_cons_succ]
          refine wpAnyH_ready (rs := [6]) (by kernel_rfl) (by simp) ?_
          refine AllReadyH.cons (o := { dst := some 42, op := Go.Op.call { callee := Go.Callee.value (Go.Operand.func 62), args := #[Go.Operand.tmp 39, Go.Operand.tmp 40, Go.Operand.tmp 41], argTypes := #[24, 3, 3] }, type := 3, pos := "row.go:44", after := #[{ on := 3, ground := Go.Ground.data }, { on := 4, ground := Go.Ground.data }, { on := 5, ground := Go.Ground.data }], guard := none }) rfl (fun K hK => ?_) AllReadyH.nil
          go_simp
          go_at_call 62
          refine (HOp.out _ ((below_onR hbo hbB).trans (hHeld.1.mono hbo.size))).mono ?_
          rintro e w8 ⟨rfl, hb8⟩
          have hb8w : Below ws.heap.size ws w8 := ((Below.refl ws.heap.size ws).drew).trans hb8
          have hs8 := hb8w.size
          have hsB := hbB.size
          refine hK.out _ _ ⟨hHeld.1.trans (hb8.mono (by have := hHeld.1.size; omega)), (hb8.block wr.heap.size (by have := hHeld.1.size; omega)).trans hHeld.2⟩ (fun hHeld => ?_)
          clear hK K hb8
          refine takeU (i := 7) (some 43) (.agg #[.int .i64 s.n, .int .i64 s.k, .int .i64 s.v, .int .i64 s.c, .int .i64 s.d, .int .i64 s.rk, .int .i64 s.up, .int .i64 s.dn, .slice adk s.cv.length cpk, .int .i64 D, .int .i64 U, .bool false]) (by kernel_rfl) (by kernel_rfl) (by kernel_rfl) (by kernel_rfl) (by kernel_rfl) (fun _ => by kernel_rfl) (fun _ _ _ h => h) hHeld ?_
          try simp only [Act.put, List.setIfInBounds_toArray, List.set_cons_zero, List.set_cons_succ]
          refine wpAnyH_ready (rs := [8]) (by kernel_rfl) (by simp) ?_
          refine AllReadyH.cons (o := { dst := some 44, op := Go.Op.buildSlice 68 1 #[(0, Go.Operand.tmp 43)], type := 68, pos := "row.go:44", after := #[{ on := 7, ground := Go.Ground.data }], guard := none }) rfl (fun K hK => ?_) AllReadyH.nil
          go_simp
          refine hK.out _ _ ⟨hHeld.1.alloc (by omega) _, (Below.heap_alloc _ _ _ (by omega)).trans hHeld.2⟩ (fun hHeld => ?_)
          clear hK K
          refine wpAnyH_ready (rs := [9]) (by kernel_rfl) (by simp) ?_
          refine AllReadyH.cons (o := { dst := some 45, op := Go.Op.call { callee := Go.Callee.builtin Go.Builtin.append, args := #[Go.Operand.tmp 36, Go.Operand.tmp 44], argTypes := #[68, 68] }, type := 68, pos := "row.go:44", after := #[{ on := 0, ground := Go.Ground.data }, { on := 8, ground := Go.Ground.data }, { on := 6, ground := Go.Ground.chain }], guard := none }) rfl (fun K hK => ?_) AllReadyH.nil
          refine step_append_lies _ (by rfl) _ _ _ (by rfl) wo.heap.size 88 n0 _ 12 112 Tryz.underlying68 hi hz0 hz1 hz2 rfl (by decide) (.slice av R.length cv) R.length _ (by rfl) (owns_belowI HRow.out (hb8w.alloc hs8 _)) ⟨w8.heap.size, 0, none⟩ 1 1 [.int .i64 s.n, .int .i64 s.k, .int .i64 s.v, .int .i64 s.c, .int .i64 s.d, .int .i64 s.rk, .int .i64 s.up, .int .i64 s.dn, .slice adk s.cv.length cpk, .int .i64 D, .int .i64 U, .bool false] (by rfl) (by rfl) (World.news_of_block (w := w8.alloc (.cells #[.int .i64 s.n, .int .i64 s.k, .int .i64 s.v, .int .i64 s.c, .int .i64 s.d, .int .i64 s.rk, .int .i64 s.up, .int .i64 s.dn, .slice adk s.cv.length cpk, .int .i64 D, .int .i64 U, .bool false] 88)) (B := w8.heap.size) (cs := #[.int .i64 s.n, .int .i64 s.k, .int .i64 s.v, .int .i64 s.c, .int .i64 s.d, .int .i64 s.rk, .int .i64 s.up, .int .i64 s.dn, .slice adk s.cv.length cpk, .int .i64 D, .int .i64 U, .bool false]) (t := 88) (fr := (0, 0)) (heap_alloc_new _ _)) (by simp [Value.oneCell']) (by decide) (by unfold maxLen; omega) (by omega) (by simp; omega) _ rfl ?_
          intro g6 c6 w6 hown6 hgrow6 hat6 hlt6
          refine hK.out _ _ ⟨hHeld.1.grown hgrow6 (by simp; omega) (fun z hz => owns_blockI HRow.out hz), (hgrow6.block wr.heap.size (by simp; omega) HNe.out).trans hHeld.2⟩ (fun hHeld => ?_)
          have hb6 : Below wo.heap.size wo w6 := hbB.trans hHeld.1
          have hown6 := Lib.hid hown6
          clear hK K hgrow6 hat6 hlt6
          try simp only [Act.put, List.setIfInBounds_toArray, List.set_cons_zero, List.set_cons_succ]
          refine takeU (i := 10) (some 9) (.slice (some ⟨g6, 0, none⟩) (R.length + 1) c6) (by kernel_rfl) (by kernel_rfl) (by kernel_rfl) (by kernel_rfl) (by kernel_rfl) (fun _ => by kernel_rfl) (fun _ _ _ h => h) hHeld ?_
          refine wpAnyH_done (by kernel_rfl) ?_ _
          try simp only [Act.put, List.setIfInBounds_toArray, List.set_cons_zero, List.set_cons_succ]
          go_wp2_with fail
          go_roundw
          case rel => exact ⟨k + 1, by omega, by go_num, ⟨some ⟨g6, 0, none⟩, c6, by rw [HE.out.2]⟩, Lib.hid (by rw [HE.out.1, HE.out.2]; exact hown6.out), hb6⟩
          case measure => simp [intOf]; omega

      · have bd : (s.d == dir) = false := beq_false_of_ne hd
        have HNn : Hid (rowK L js dir h l ad cp (k + 1) = R) := Lib.hid (by rw [HN.out, if_neg (by rw [HSel.out, bd]; simp)])
        clear HN HSel HMk HDi HOp HSp
        go_wp2_with fail
        go_roundw
        case rel => exact ⟨k + 1, by omega, by go_num, ⟨_, cv, by rw [HNn.out]⟩, Lib.hid (by rw [HNn.out]; exact HRow.out), hbB⟩
        case measure => simp [intOf]; omega
    · obtain rfl : k = l.length := by omega
      have HPr : Hid (∀ j, j < l.length → PairsS w (ad j) (gs l j).cv) := Lib.hid fun j hj => (HC.out j hj).2.2
      have HMem := Lib.hid (rowK_mem L js dir h l ad cp)
      have HMe := Lib.hid (fun x => HMem.out x l.length)
      have HCv := Lib.hid (fun j (hj : j < l.length) => (show (-1000000 ≤ (mkP L js dir (gs l j)).d ∧ (mkP L js dir (gs l j)).d ≤ 1000000) ∧ -1000000 ≤ (mkP L js dir (gs l j)).s.v ∧ (mkP L js dir (gs l j)).s.v ≤ 1000000 from ⟨dst_bound hL1 hL2 (HCh.out j hj).1 (HCh.out j hj).2.1, (HCh.out j hj).2.2⟩))
      have HRE : Hid (∀ (l1 : List PE) (a9 : Option Addr) (c9 : Nat) (e : Ending) (w' : World), l1.Perm (rowK L js dir h l ad cp l.length) → (∀ i j, i < j → j < l1.length → ¬ ahdP l1[j]!.1 l1[i]!.1) → e = .returned (.slice a9 l1.length c9) → PstS w' a9 ((finP l1 (l1.length - 1)).map (·.1)) → Below w.heap.size w w' → RowE L js dir h l w e w') := Lib.hid fun l1 a9 c9 e w' h1 h2 h3 h4 h5 => ⟨ad, cp, l1, a9, c9, h1, h2, h3, h4, h5⟩
      clear HC HL HCh HI HJ HMem
      obtain ⟨R, hR⟩ : ∃ R, rowK L js dir h l ad cp l.length = R := ⟨_, rfl⟩
      rw [hR] at HRow hRl ⊢
      simp only [hR] at HMe HRE
      clear hR
      have hsr := hbr.size
      have HAv : Hid (0 < R.length → ∃ g, av = some ⟨g, 0, none⟩) := Lib.hid fun h0 => by
        obtain ⟨g, c, h1, -, -⟩ := World.ownsRow.form HRow.out h0
        exact ⟨g, by simpa using (Value.slice.inj h1).1⟩
      obtain ⟨ws, rfl⟩ : ∃ wz : World, wz = wr := ⟨_, rfl⟩
      have hq9 : ∀ g, av = some ⟨g, 0, none⟩ → g < ws.heap.size := fun g hg => (World.ownsRow.lt HRow.out g (by rw [hg]; rfl)).2
      have HQ9 := Lib.hid hq9
      clear hq9
      go_wp2_with (first
        | (go_at_call 64
           refine (by0_r ws.heap.size _).mono ?_
           rintro e w5 ⟨B5, rfl, hB5, cB5, hb5⟩
           have f0 : (ws.alloc (.cells #[.func (.func 65) #[] #[], .func (.func 66) #[] #[], .func (.func 67) #[] #[]] 93)).cell? ⟨ws.heap.size, 0, none⟩ = some (.func (.func 65) #[] #[]) := by simp [go_sem]
           have f1 : (ws.alloc (.cells #[.func (.func 65) #[] #[], .func (.func 66) #[] #[], .func (.func 67) #[] #[]] 93)).cell? ⟨ws.heap.size, 1, none⟩ = some (.func (.func 66) #[] #[]) := by simp [go_sem]
           have f2 : (ws.alloc (.cells #[.func (.func 65) #[] #[], .func (.func 66) #[] #[], .func (.func 67) #[] #[]] 93)).cell? ⟨ws.heap.size, 2, none⟩ = some (.func (.func 67) #[] #[]) := by simp [go_sem]
           replace f0 := cell_below f0 hb5
           replace f1 := cell_below f1 hb5
           replace f2 := cell_below f2 hb5
           have hb5s : Below ws.heap.size ws w5 := ((Below.refl _ _).alloc (Nat.le_refl _) _).trans (hb5.mono (by simp))
           have HS5 := Lib.hid (sortRow_r wo.heap.size B5 ws.heap.size cv av R w5 (owns_belowI HRow.out hb5s) (by omega) cB5 f0 f1 f2 (fun g hg => by have := HQ9.out g hg; simp at hB5; omega)))
        | (go_at_call 63
           (with_reducible refine HS5.out.mono ?_)
           rintro e w6 ⟨rfl, l1, hp1, hs1, hc1, hb6⟩
           have HP1 := Lib.hid hp1
           have HS1 := Lib.hid hs1
           have HC1 := Lib.hid hc1
           have hl1 := hp1.length_eq
           clear hp1 hs1 hc1))
      obtain ⟨wt, rfl⟩ : ∃ wz : World, wz = w6 := ⟨_, rfl⟩
      have hn1 : l1.length = R.length := hl1
      have HLen := Lib.hid hl1
      clear hl1 hn1
      have hbt : Below wo.heap.size wo wt := hbr.trans ((hb5s.mono hsr).trans hb6)
      have HPt : Hid (∀ x, x ∈ l1 → (∃ j, j < l.length ∧ x = (mkP L js dir (gs l j), ad j, cp j)) ) := Lib.hid fun x hx => HMe.out x (HP1.out.mem_iff.1 hx)
      clear hb5 hb5s hb6 f0 f1 f2 cB5 HS5 HQ9 hB5 HRow
      rcases Nat.eq_zero_or_pos R.length with hn0 | hn0
      · have hn1 : ¬ ((1 : Int) < (R.length : Int)) := by omega
        have HN0 := Lib.hid hn0
        clear hn0
        refine wp_loop_rounds 1 ?_
        rw [rounds_succ]
        go_wp2_with fail
        go_ret
        have h0 : l1 = [] := List.eq_nil_of_length_eq_zero (by rw [HLen.out, HN0.out])
        exact HRE.out l1 av cv _ _ HP1.out HS1.out (by rw [HLen.out]; rfl) (by rw [h0]; exact ⟨by simp [finP], 0, 0, fun _ => none, fun _ => 0, fun hh => absurd rfl hh, fun i hi => absurd hi (by simp [finP])⟩) (hbo.trans (hbt.mono hbo.size))
      · obtain ⟨g, rfl⟩ := HAv.out hn0
        obtain ⟨hgw, hcel⟩ := HC1.out g rfl
        have HCel : Hid (CelP wt g (clP (finP l1 0))) := Lib.hid hcel
        clear hcel HC1 HAv
        have HFl := Lib.hid (finP_len l1)
        have HFk := Lib.hid (finP_keeps l1)
        have HEl : Hid (∀ j : Nat, j < R.length → (-1000000 ≤ l1[j]!.1.d ∧ l1[j]!.1.d ≤ 1000000) ∧ -1000000 ≤ l1[j]!.1.s.v ∧ l1[j]!.1.s.v ≤ 1000000) := Lib.hid fun j hj => by
          have hj2 : j < l1.length := by rw [HLen.out]; exact hj
          obtain ⟨m, hm, e⟩ := HPt.out l1[j]! (by rw [getElem!_pos _ j hj2]; exact List.getElem_mem hj2)
          rw [e]
          exact HCv.out m hm
        clear HCv
        go_wp2_with fail
        go_loopw [13] (fun i9 wr => ∃ i : Nat, 1 ≤ i ∧ i ≤ R.length ∧ i9 = .int .i64 i ∧ Below wo.heap.size wt wr ∧ Hid (CelP wr g (clP (finP l1 (i - 1))))) (fun i9 _ => R.length - (intOf i9).toNat)
        case atStart => exact ⟨1, Nat.le_refl _, hn0, rfl, Below.refl _ _, HCel⟩
        case round =>
          clear HCel
          obtain ⟨i, hi1, hi2, rfl, hbi, HCi⟩ := hrel
          by_cases hlt : i < R.length
          · obtain ⟨t, ht⟩ : ∃ t, i - 1 = t := ⟨_, rfl⟩
            have ht2 : t + 1 = i := by omega
            rw [ht] at HCi
            have htl : t < R.length := by omega
            have hlF : (finP l1 t).length = R.length := (HFl.out t).trans HLen.out
            have HSt : Hid (finP l1 i = if cndP (finP l1 t)[t]!.1 (finP l1 t)[i]!.1 = true then ((finP l1 t).set i ({ (finP l1 t)[i]!.1 with b := true }, (finP l1 t)[i]!.2)).set t ({ (finP l1 t)[t]!.1 with u := min (finP l1 t)[t]!.1.u ((finP l1 t)[t]!.1.d + (finP l1 t)[i]!.1.s.v) }, (finP l1 t)[t]!.2) else finP l1 t) := Lib.hid (by rw [← ht2]; rfl)
            have kx := HFk.out t t (by rw [HLen.out]; exact htl)
            have ky := HFk.out t i (by rw [HLen.out]; exact htl)
            have ex := HEl.out t htl
            have ey := HEl.out i hlt
            rw [← kx.2.1, ← kx.1] at ex
            rw [← ky.2.1, ← ky.1] at ey
            clear kx ky
            obtain ⟨F, hF⟩ : ∃ F, finP l1 t = F := ⟨_, rfl⟩
            rw [hF] at HSt HCi hlF ex ey
            have HlF := Lib.hid hlF
            obtain ⟨x1, x2, x9, x10, x11, xf10, xf11⟩ := celP_fields HCi.out (j := t) (by omega)
            obtain ⟨y1, y2, y9, y10, y11, yf10, yf11⟩ := celP_fields HCi.out (j := i) (by omega)
            have HCnd : Hid (cndP F[t]!.1 F[i]!.1 = ((topK F[t]!.1.s.k != 0) && ((F[i]!.1.s.k == 7) && (F[i]!.1.d == F[t]!.1.d)))) := Lib.hid rfl
            have HTq : Hid (∀ W, Calls Tryz.prog 58 #[.int .i64 F[t]!.1.s.k] W fun e w' => e = .returned (.int .i64 (topK F[t]!.1.s.k)) ∧ w' = W) := Lib.hid fun W => (topicOf_r F[t]!.1.s.k W).mono fun e w' h => ⟨h.1, h.2.symm⟩
            have HXY : Hid (F[t]!.1.s.k = F[t]!.1.s.k) := Lib.hid rfl
            obtain ⟨⟨xd0, xd1⟩, -⟩ := ex
            obtain ⟨⟨yd0, yd1⟩, yv0, yv1⟩ := ey
            have hwi : IntKind.i64.wrap ((i : Int) - 1) = (t : Int) := by rw [show (i : Int) - 1 = (t : Int) by omega]; exact IntWalk.i64_in _ (by omega)
            have ht0 : (0 : Int) ≤ (t : Int) := by omega
            have ht3 : (t : Int) < (R.length : Int) := by omega
            have hi0 : (0 : Int) ≤ (i : Int) := by omega
            have hi3 : (i : Int) < (R.length : Int) := by omega
            have HT2 := Lib.hid ht2
            have hti : t ≠ i := by omega
            clear hF hlF ht ht2 x2 x11 y10 xf11 yf10 HXY
            generalize hT' : topK F[t]!.1.s.k = T at *
            generalize hxk : F[t]!.1.s.k = xk at *
            generalize hxd : F[t]!.1.d = xd at *
            generalize hxu : F[t]!.1.u = xu at *
            generalize hyk : F[i]!.1.s.k = yk at *
            generalize hyv : F[i]!.1.s.v = yv at *
            generalize hyd : F[i]!.1.d = yd at *
            have HNM := Lib.hid (And.intro hxd (And.intro hxu hyv))
            clear hT' hxk hxd hxu hyk hyv hyd
            by_cases hT : T = 0
            · have hT1 : (T == 0) = true := by simp [hT]
              have hT2 : (T != 0) = false := by simp [hT]
              clear hT
              have HSt2 : Hid (finP l1 i = F) := Lib.hid (by rw [HSt.out, if_neg (by rw [HCnd.out]; rw [hT2]; simp)])
              clear HSt HCnd
              go_wp2_with fail
              go_quiet (fail)
              go_wp2_with fail
              go_quiet ((go_at_call 58; first | exact Calls.quiet_of_same (HTq.out _) | exact (HTq.out _).mono (fun e w' h => ⟨h.1, _, h.2⟩)))
              go_wp2_with fail
              go_roundw
              case rel => exact ⟨i + 1, by omega, by omega, by go_num, (by first | exact hbi | exact below_drewN hbi _ | exact below_drewN (below_drewN hbi _) _), Lib.hid (by rw [Nat.add_sub_cancel, HSt2.out]; exact HCi.out)⟩
              case measure => simp [intOf]; omega
            have hT1 : (T == 0) = false := by simpa using hT
            have hT2 : (T != 0) = true := by simpa using hT
            clear hT
            by_cases hK : yk = 7
            rotate_left
            · have hK1 : (yk == 7) = false := by simpa using hK
              clear hK
              have HSt2 : Hid (finP l1 i = F) := Lib.hid (by rw [HSt.out, if_neg (by rw [HCnd.out]; rw [hK1]; simp)])
              clear HSt HCnd
              go_wp2_with fail
              go_quiet (fail)
              go_wp2_with fail
              go_quiet ((go_at_call 58; first | exact Calls.quiet_of_same (HTq.out _) | exact (HTq.out _).mono (fun e w' h => ⟨h.1, _, h.2⟩)))
              go_wp2_with fail
              go_roundw
              case rel => exact ⟨i + 1, by omega, by omega, by go_num, (by first | exact hbi | exact below_drewN hbi _ | exact below_drewN (below_drewN hbi _) _), Lib.hid (by rw [Nat.add_sub_cancel, HSt2.out]; exact HCi.out)⟩
              case measure => simp [intOf]; omega
            have hK1 : (yk == 7) = true := by simpa using hK
            clear hK
            by_cases hD : yd = xd
            rotate_left
            · have hD1 : (yd == xd) = false := by simpa using hD
              clear hD
              have HSt2 : Hid (finP l1 i = F) := Lib.hid (by rw [HSt.out, if_neg (by rw [HCnd.out]; rw [hD1]; simp)])
              clear HSt HCnd
              go_wp2_with fail
              go_quiet (fail)
              go_wp2_with fail
              go_quiet ((go_at_call 58; first | exact Calls.quiet_of_same (HTq.out _) | exact (HTq.out _).mono (fun e w' h => ⟨h.1, _, h.2⟩)))
              go_wp2_with fail
              go_roundw
              case rel => exact ⟨i + 1, by omega, by omega, by go_num, (by first | exact hbi | exact below_drewN hbi _ | exact below_drewN (below_drewN hbi _) _), Lib.hid (by rw [Nat.add_sub_cancel, HSt2.out]; exact HCi.out)⟩
              case measure => simp [intOf]; omega
            have hD1 : (yd == xd) = true := by simpa using hD
            clear hD
            have HSt2 := Lib.hid (HSt.out.trans (if_pos (by rw [HCnd.out, hT2, hK1, hD1]; rfl)))
            clear HSt HCnd
            go_wp2_with fail
            go_quiet (fail)
            go_upto_region 14 with (fail)
            go_cut [89] (fun v wx => v = .bool true ∧ Below wo.heap.size wt wx ∧ Hid (CelP wx g (clP F)))
            case first =>
              go_quiet ((go_at_call 58; first | exact Calls.quiet_of_same (HTq.out _) | exact (HTq.out _).mono (fun e w' h => ⟨h.1, _, h.2⟩)))
              go_wp2_with fail
              go_meet
              exact ⟨rfl, (by first | exact below_drewN hbi _ | exact below_drewN (below_drewN hbi _) _), Lib.hid HCi.out⟩
            case rest =>
              obtain ⟨rfl, hbx, HCx⟩ := hcut
              obtain ⟨wq, rfl⟩ : ∃ wz : World, wz = wc := ⟨_, rfl⟩
              clear x1 x9 x10 xf10 y1 y2 y9 y11 yf11 HTq hbi HCi hT1 hT2 hK1 hD1
              obtain ⟨-, -, -, -, y11, -, yf11⟩ := celP_fields HCx.out (j := i) (by rw [HlF.out]; exact hlt)
              go_upto_region 16 with (fail)
              obtain ⟨wS, hwS⟩ : ∃ wS, wq.setCell ⟨g, i * 12 + 11, none⟩ (.bool true) = wS := ⟨_, rfl⟩
              have HCS : Hid (CelP wS g (clP (F.set i ({ F[i]!.1 with b := true }, F[i]!.2)))) := Lib.hid (by
                rw [← hwS, ← clP_setb F i true (by rw [HlF.out]; exact hlt)]
                exact HCx.out.set (by rw [clP_len, HlF.out]; omega))
              have hbS : Below wo.heap.size wt wS := by rw [← hwS]; exact hbx.setCell (p := ⟨g, i * 12 + 11, none⟩) hgw _
              rw [hwS]
              clear hwS hbx HCx y11 yf11
              obtain ⟨-, -, x9, x10, -, xf10, -⟩ := celP_fields HCS.out (j := t) (by rw [List.length_set, HlF.out]; exact htl)
              obtain ⟨-, y2, -, -, -, -, -⟩ := celP_fields HCS.out (j := i) (by rw [List.length_set, HlF.out]; exact hlt)
              rw [set_other F _ (fun e => hti e.symm), HNM.out.1] at x9
              rw [set_other F _ (fun e => hti e.symm), HNM.out.2.1] at x10
              rw [set_same F _ (by rw [HlF.out]; exact hlt)] at y2
              simp only [HNM.out.2.2] at y2
              have HFin : Hid (∀ v, v = min xu (xd + yv) → ∀ wz, CelP wz g (clP (F.set i ({ F[i]!.1 with b := true }, F[i]!.2))) → CelP (wz.setCell ⟨g, t * 12 + 10, none⟩ (.int .i64 v)) g (clP (finP l1 i))) := Lib.hid fun v hv wz hz => by
                have h9 := hz.set (j := t * 12 + 10) (v := .int .i64 v) (by rw [clP_len, List.length_set, HlF.out]; omega)
                rw [clP_setu _ t v (by rw [List.length_set, HlF.out]; exact htl), set_other F _ (fun e => hti e.symm)] at h9
                rw [HSt2.out, ← hv]
                exact h9
              have hws : IntKind.i64.wrap (xd + yv) = xd + yv := IntWalk.i64_in _ (by omega)
              clear HSt2 HNM
              have hzs : g < wS.heap.size := block_lt x9
              have HFm := Lib.hid (HFin.out _ rfl)
              clear HFin
              go_still_tail 18, (by kernel_rfl)
              change wpList _ _ _ _ _ wS.drew
              have x10d : wS.drew.cell? ⟨g, t * 12 + 10, none⟩ = some (.int .i64 xu) := x10
              have xf10d : wS.drew.frozen? ⟨g, t * 12 + 10, none⟩ = false := xf10
              have hbd : Below wo.heap.size wt wS.drew := hbS.drew
              have HCd : Hid (CelP wS.drew g (clP (F.set i ({ F[i]!.1 with b := true }, F[i]!.2)))) := HCS
              clear x9 x10 xf10 y2 hbS HCS hzs
              generalize wS.drew = wd at *
              go_wp2_with fail
              go_roundw
              case rel => exact ⟨i + 1, by omega, by omega, by go_num, hbd.setCell (p := ⟨g, t * 12 + 10, none⟩) hgw _, Lib.hid (by rw [Nat.add_sub_cancel]; exact HFm.out _ HCd.out)⟩
              case measure => simp [intOf]; omega
          · obtain rfl : i = R.length := by omega
            have hbw := hbo.trans ((hbt.trans hbi).mono hbo.size)
            have HBW := Lib.hid hbw
            have HWs : Hid (Below wo.heap.size wo wr) := Lib.hid (hbt.trans hbi)
            clear hbw hbi
            go_wp2_with fail
            go_ret
            have hll : l1.length = R.length := HLen.out
            refine HRE.out l1 (some ⟨g, 0, none⟩) cv _ _ HP1.out HS1.out (by rw [HLen.out]; rfl) (pst_of (by rw [hll]; exact HCi.out) (by rw [HFl.out, hll]; omega) (fun m hm => ?_)) HBW.out
            rw [HFl.out] at hm
            obtain ⟨k1, k2, k3⟩ := HFk.out (l1.length - 1) m (by omega)
            rw [k1, k3]
            obtain ⟨j, hj, e⟩ := HPt.out l1[m]! (by rw [getElem!_pos _ m hm]; exact List.getElem_mem hm)
            rw [e]
            exact (HPr.out j hj).below HBW.out
end Go.Proofs.YtjoffnbpaebgjaaGreat

namespace Go.Proofs.YtjoffnbpaebgjaaGreat
set_option linter.unusedVariables false
set_option linter.unusedSimpArgs false
open Go.RowKit

theorem cuts0 : True := trivial
/-- A row that rowOf may return. -/
def RowL (L : Int) (js : List Int) (dir h : Int) (l : List Sgn) (row : List Pst) : Prop :=
  ∃ (ad : Nat → Option Addr) (cp : Nat → Nat) (l1 : List PE), l1.Perm (rowK L js dir h l ad cp l.length) ∧ (∀ i j, i < j → j < l1.length → ¬ ahdP l1[j]!.1 l1[i]!.1) ∧ row = (finP l1 (l1.length - 1)).map (·.1)
def RowF (L : Int) (js : List Int) (dir h : Int) (l : List Sgn) (w : World) (e : Ending) (w' : World) : Prop :=
  ∃ (row : List Pst) (a : Option Addr) (c : Nat), RowL L js dir h l row ∧ row.length ≤ l.length ∧ (∀ p, p ∈ row → (-100000 ≤ p.d ∧ p.d ≤ 100000) ∧ -100000 ≤ p.u ∧ p.u ≤ 100000) ∧ e = .returned (.slice a row.length c) ∧ PstS w' a row ∧ Below w.heap.size w w'
theorem dst_bd {L dir c : Int} (h1 : 0 ≤ L) (h2 : L ≤ 100000) (h3 : 0 ≤ c) (h4 : c ≤ 100000) : -100000 ≤ dstK L dir c ∧ dstK L dir c ≤ 100000 := by unfold dstK; split <;> omega
theorem opn_bd {L : Int} {js : List Int} {dir d : Int} (h1 : 0 ≤ L) (h2 : L ≤ 100000) (hJ : ∀ j, j < js.length → 0 ≤ gi js j ∧ gi js j ≤ 100000) : ∀ k, k ≤ js.length → -100000 ≤ opnK L js dir d k ∧ opnK L js dir d k ≤ 100000
  | 0, _ => by unfold opnK; omega
  | k + 1, hk => by
    have ih := opn_bd (dir := dir) (d := d) h1 h2 hJ k (by omega)
    have hj := hJ k (by omega)
    have := dst_bd (dir := dir) h1 h2 hj.1 hj.2
    rw [opnK]; split <;> omega
theorem finP_u (s : List PE) (h : ∀ j : Nat, j < s.length → (-100000 ≤ s[j]!.1.d ∧ s[j]!.1.d ≤ 100000) ∧ (0 ≤ s[j]!.1.s.v ∧ s[j]!.1.s.v ≤ 100000) ∧ -100000 ≤ s[j]!.1.u ∧ s[j]!.1.u ≤ 100000) : ∀ (t i : Nat), t < s.length → i < s.length → -100000 ≤ (finP s t)[i]!.1.u ∧ (finP s t)[i]!.1.u ≤ 100000
  | 0, i, _, hi => (h i hi).2.2
  | t + 1, i, ht, hi => by
    have ih := finP_u s h t
    have hl := finP_len s t
    rw [finP]
    split
    · by_cases e : t = i
      · subst e
        rw [set_same _ _ (by simp; omega)]
        have a := ih t (by omega) hi
        have k1 := finP_keeps s t t (by omega)
        have k2 := finP_keeps s t (t + 1) (by omega)
        have b1 := (h t hi).1
        have b2 := (h (t + 1) ht).2.1
        rw [← k1.2.1] at b1
        rw [← k2.1] at b2
        show _ ≤ min _ _ ∧ min _ _ ≤ _
        omega
      · rw [set_other _ _ e]
        by_cases e2 : t + 1 = i
        · subst e2
          rw [set_same _ _ (by omega)]
          exact ih (t + 1) (by omega) hi
        · rw [set_other _ _ e2]; exact ih i (by omega) hi
    · exact ih i (by omega) hi
theorem rowF_of {L : Int} {js : List Int} {dir h : Int} {l : List Sgn} {w : World} {e : Ending} {w' : World} (hL1 : 0 ≤ L) (hL2 : L ≤ 100000) (hJ : ∀ j, j < js.length → 0 ≤ gi js j ∧ gi js j ≤ 100000) (hC : ∀ j, j < l.length → (0 ≤ (gs l j).c ∧ (gs l j).c ≤ 100000) ∧ 0 ≤ (gs l j).v ∧ (gs l j).v ≤ 100000) (H : RowE L js dir h l w e w') : RowF L js dir h l w e w' := by
  obtain ⟨ad, cp, l1, a, c, h1, h2, h3, h4, h5⟩ := H
  have hl : (finP l1 (l1.length - 1)).length = l1.length := finP_len _ _
  have hr := rowK_len L js dir h l ad cp l.length
  have hp := h1.length_eq
  refine ⟨(finP l1 (l1.length - 1)).map (·.1), a, c, ⟨ad, cp, l1, h1, h2, rfl⟩, by simp [hl]; omega, fun p hp2 => ?_, by simp [hl]; exact h3, h4, h5⟩
  obtain ⟨x, hx, rfl⟩ := List.mem_map.1 hp2
  obtain ⟨i, hi, rfl⟩ := List.getElem_of_mem hx
  rw [hl] at hi
  have hk := finP_keeps l1 (l1.length - 1) i (by omega)
  have e1 : (finP l1 (l1.length - 1))[i] = (finP l1 (l1.length - 1))[i]! := (getElem!_pos _ i (by rw [hl]; exact hi)).symm
  have hEl : ∀ j : Nat, j < l1.length → (-100000 ≤ l1[j]!.1.d ∧ l1[j]!.1.d ≤ 100000) ∧ (0 ≤ l1[j]!.1.s.v ∧ l1[j]!.1.s.v ≤ 100000) ∧ -100000 ≤ l1[j]!.1.u ∧ l1[j]!.1.u ≤ 100000 := fun j hj => by
    obtain ⟨m, hm, e2⟩ := rowK_mem L js dir h l ad cp l1[j]! l.length (h1.mem_iff.1 (by rw [getElem!_pos _ j hj]; exact List.getElem_mem hj))
    rw [e2]
    exact ⟨dst_bd hL1 hL2 (hC m hm).1.1 (hC m hm).1.2, (hC m hm).2, opn_bd hL1 hL2 hJ _ (Nat.le_refl _)⟩
  rw [e1]
  refine ⟨?_, finP_u l1 hEl _ i (by omega) hi⟩
  rw [hk.2.1]
  have := (hEl i hi).1
  omega
set_option maxRecDepth 100000 in
set_option maxHeartbeats 1000000 in
theorem told1_r (L : Int) (a : Option Addr) (js : List Int) (ca : Nat) (dir tp m : Int) (row : List Pst) (ar : Option Addr) (cr rb wb lb : Nat) (hL1 : 0 ≤ L) (hL2 : L ≤ 100000) (hm1 : -1000000 ≤ m) (hm2 : m ≤ 1000000) (w : World) (hR : PstS w ar row)
    (c0 : w.cell? ⟨rb, 0, none⟩ = some (.slice ar row.length cr)) (c1 : w.cell? ⟨wb, 0, none⟩ = some (.int .i64 tp)) (c2 : w.cell? ⟨wb, 1, none⟩ = some (.int .i64 dir)) (c3 : w.cell? ⟨lb, 0, none⟩ = some (.int .i64 L)) (c4 : w.cell? ⟨lb, 1, none⟩ = some (.slice a js.length ca)) :
    Calls Tryz.prog 81 (#[.int .i64 m] ++ #[.pointer (some ⟨rb, 0, none⟩), .pointer (some ⟨wb, 0, none⟩), .pointer (some ⟨lb, 0, none⟩)]) w fun e w' => e = .returned (.int .i64 (hldL tp (begK L dir m) row 0)) ∧ Below w.heap.size w w' := by
  change Calls Tryz.prog 81 #[.int .i64 m, .pointer (some ⟨rb, 0, none⟩), .pointer (some ⟨wb, 0, none⟩), .pointer (some ⟨lb, 0, none⟩)] w _
  have HB := Lib.hid (fun W => beginOf_r L a js.length ca dir m hL1 hL2 hm1 hm2 W)
  have HH := Lib.hid (fun W (hW : Below w.heap.size w W) k => holdsAt_r ar row cr tp k W (hR.below hW))
  clear hR
  go_enter Tryz.func81, Tryz.ntmps81
  go_wp2_with fail
  have hB := Below.refl w.heap.size w
  have z0 := block_lt c0
  have z1 := block_lt c1
  have z3 := block_lt c3
  have C0 := Lib.hid c0
  have C1 := Lib.hid c1
  have C2 := Lib.hid c2
  have C3 := Lib.hid c3
  have C4 := Lib.hid c4
  go_region_held3 (fun w' => w'.cell? ⟨rb, 0, none⟩ = some (.slice ar row.length cr) ∧ w'.cell? ⟨wb, 0, none⟩ = some (.int .i64 tp) ∧ w'.cell? ⟨wb, 1, none⟩ = some (.int .i64 dir) ∧ w'.cell? ⟨lb, 0, none⟩ = some (.int .i64 L) ∧ w'.cell? ⟨lb, 1, none⟩ = some (.slice a js.length ca)) (go_keep)
    (first
      | (go_at_call 31
         refine (HB.out _).mono ?_
         rintro e w9 ⟨rfl, hb9⟩
         replace hB : Below w.heap.size w w9 := (show Below w.heap.size w _ by first | exact hB.drew | exact hB).trans (hb9.mono hB.size)
         have c0 := (hB.cell (p := ⟨rb, 0, none⟩) z0).trans C0.out
         have c1 := (hB.cell (p := ⟨wb, 0, none⟩) z1).trans C1.out
         have c2 := (hB.cell (p := ⟨wb, 1, none⟩) z1).trans C2.out
         have c3 := (hB.cell (p := ⟨lb, 0, none⟩) z3).trans C3.out
         have c4 := (hB.cell (p := ⟨lb, 1, none⟩) z3).trans C4.out)
      | (go_at_call 33
         refine (HH.out _ (by first | exact hB.drew | exact hB) _).mono ?_
         rintro e w9 ⟨rfl, hb9⟩
         replace hB : Below w.heap.size w w9 := (show Below w.heap.size w _ by first | exact hB.drew | exact hB).trans (hb9.mono hB.size)
         have c0 := (hB.cell (p := ⟨rb, 0, none⟩) z0).trans C0.out
         have c1 := (hB.cell (p := ⟨wb, 0, none⟩) z1).trans C1.out
         have c2 := (hB.cell (p := ⟨wb, 1, none⟩) z1).trans C2.out
         have c3 := (hB.cell (p := ⟨lb, 0, none⟩) z3).trans C3.out
         have c4 := (hB.cell (p := ⟨lb, 1, none⟩) z3).trans C4.out))
  all_goals
    go_wp2_with fail
    go_ret
    exact ⟨rfl, by first | exact hB | exact hB.drew⟩
/-- The cuts of a course. -/
def cutsK (L dir : Int) (row : List Pst) : Nat → List Int
  | 0 => [0, L]
  | k + 1 => cutsK L dir row k ++ [dstK L dir (gq row k).d, dstK L dir (gq row k).u]
theorem cutsK_len (L dir : Int) (row : List Pst) : ∀ k, (cutsK L dir row k).length = 2 + 2 * k
  | 0 => rfl
  | k + 1 => by rw [cutsK, List.length_append, cutsK_len L dir row k]; simp; omega
theorem cutsK_bd {L dir : Int} {row : List Pst} (h1 : 0 ≤ L) (h2 : L ≤ 100000) (h : ∀ p, p ∈ row → (-100000 ≤ p.d ∧ p.d ≤ 100000) ∧ -100000 ≤ p.u ∧ p.u ≤ 100000) : ∀ k, k ≤ row.length → ∀ m, m ∈ cutsK L dir row k → -1000000 ≤ m ∧ m ≤ 1000000
  | 0, _, m, hm => by
    simp [cutsK] at hm
    omega
  | k + 1, hk, m, hm => by
    rw [cutsK, List.mem_append] at hm
    rcases hm with hm | hm
    · exact cutsK_bd h1 h2 h k (by omega) m hm
    · have hp := h (gq row k) (by unfold gq; rw [List.getD_eq_getElem?_getD, List.getElem?_eq_getElem (show k < row.length by omega)]; exact List.getElem_mem _)
      have hd : ∀ c, -100000 ≤ c → c ≤ 100000 → -1000000 ≤ dstK L dir c ∧ dstK L dir c ≤ 1000000 := fun c a b => by unfold dstK; split <;> omega
      simp at hm
      rcases hm with rfl | rfl
      · exact hd _ hp.1.1 hp.1.2
      · exact hd _ hp.2.1 hp.2.2
theorem cell_neF {w : World} {B b o : Nat} {k : IntKind} {n : Int} {T : TypeId} {fr : Nat × Nat} (h : w.heap[B]? = some (.cells #[.nilFunc, .slice none 0 0] T fr)) (hc : w.cell? ⟨b, o, none⟩ = some (.int k n)) : b ≠ B := by
  rintro rfl
  rw [World.cell?, h] at hc
  rcases o with _ | _ | o <;> simp at hc
theorem pairs_far {w w' : World} {a : Option Addr} {l : List (Int × Int)} (h : PairsS w a l) (hf : ∀ b o k n, w.cell? ⟨b, o, none⟩ = some (.int k n) → w'.heap[b]? = w.heap[b]?) : PairsS w' a l := by
  obtain ⟨h0, h1, blk, off, h2, h3⟩ := h
  refine ⟨h0, h1, blk, off, h2, fun i hi => ?_⟩
  obtain ⟨c0, c1⟩ := h3 i hi
  have hb := hf _ _ _ _ c0
  exact ⟨(World.cell?_of_block (w := w) (w' := w') (a := ⟨blk, off + i * 2, none⟩) hb).trans c0, (World.cell?_of_block (w := w) (w' := w') (a := ⟨blk, off + i * 2 + 1, none⟩) hb).trans c1⟩
theorem pst_far {w w' : World} {a : Option Addr} {l : List Pst} (h : PstS w a l) (hf : ∀ b o k n, w.cell? ⟨b, o, none⟩ = some (.int k n) → w'.heap[b]? = w.heap[b]?) : PstS w' a l := by
  obtain ⟨h0, blk, off, ad, cp, h2, h3⟩ := h
  refine ⟨h0, blk, off, ad, cp, h2, fun i hi => ?_⟩
  obtain ⟨⟨⟨c0, c1, c2, c3, c4, c5, c6, c7⟩, c8, c9, c10, c11⟩, hp⟩ := h3 i hi
  have hb := hf _ _ _ _ c0
  have t : ∀ o v, w.cell? ⟨blk, o, none⟩ = some v → w'.cell? ⟨blk, o, none⟩ = some v := fun o v hc => (World.cell?_of_block (w := w) (w' := w') (a := ⟨blk, o, none⟩) hb).trans hc
  exact ⟨⟨⟨t _ _ c0, t _ _ c1, t _ _ c2, t _ _ c3, t _ _ c4, t _ _ c5, t _ _ c6, t _ _ c7⟩, t _ _ c8, t _ _ c9, t _ _ c10, t _ _ c11⟩, pairs_far hp hf⟩
theorem cutsK_pair (L dir : Int) (row : List Pst) (k : Nat) : clI (cutsK L dir row (k + 1)) = clI (cutsK L dir row k) ++ [.int .i64 (dstK L dir (gq row k).d), .int .i64 (dstK L dir (gq row k).u)] := by rw [cutsK]; simp [clI]
/-- A course comes back. -/
def ToldE (L : Int) (a : Option Addr) (js : List Int) (ca : Nat) (dir tp h : Int) (l : List Sgn) (w : World) (e : Ending) (w' : World) : Prop :=
  ∃ (row : List Pst) (ar : Option Addr) (cr rb wb lb : Nat) (aq : Option Addr) (cq : Nat), RowL L js dir h l row ∧ row.length ≤ l.length ∧ PstS w' ar row ∧ w'.cell? ⟨rb, 0, none⟩ = some (.slice ar row.length cr) ∧ w'.cell? ⟨wb, 0, none⟩ = some (.int .i64 tp) ∧ w'.cell? ⟨wb, 1, none⟩ = some (.int .i64 dir) ∧ w'.cell? ⟨lb, 0, none⟩ = some (.int .i64 L) ∧ w'.cell? ⟨lb, 1, none⟩ = some (.slice a js.length ca) ∧
    e = .returned (.agg #[.func (.func 81) #[] #[.pointer (some ⟨rb, 0, none⟩), .pointer (some ⟨wb, 0, none⟩), .pointer (some ⟨lb, 0, none⟩)], .slice aq (cutsK L dir row row.length).length cq]) ∧ IntsS w' aq (cutsK L dir row row.length) ∧ (∀ m, m ∈ cutsK L dir row row.length → -1000000 ≤ m ∧ m ≤ 1000000) ∧ Below w.heap.size w w'
end Go.Proofs.YtjoffnbpaebgjaaGreat

namespace Go.Proofs.YtjoffnbpaebgjaaGreat
set_option linter.unusedVariables false
set_option linter.unusedSimpArgs false
open Go.RowKit

set_option maxRecDepth 100000 in
set_option maxHeartbeats 2000000 in
theorem told_r (L : Int) (a : Option Addr) (js : List Int) (ca : Nat) (aa : Option Addr) (l : List Sgn) (cl : Nat) (h dir tp : Int) (hL1 : 0 ≤ L) (hL2 : L ≤ 100000) (hJ : ∀ j, j < js.length → 0 ≤ gi js j ∧ gi js j ≤ 100000) (hC : ∀ j, j < l.length → (0 ≤ (gs l j).c ∧ (gs l j).c ≤ 100000) ∧ 0 ≤ (gs l j).v ∧ (gs l j).v ≤ 100000) (hn : l.length ≤ 1000) (w : World) (hI : IntsS w a js) (hA : SgnS w aa l) :
    Calls Tryz.prog 49 #[.agg #[.int .i64 L, .slice a js.length ca], .slice aa l.length cl, .int .i64 h, .agg #[.int .i64 tp, .int .i64 dir]] w (ToldE L a js ca dir tp h l w) := by
  have HR := Lib.hid (fun W (hW : Below w.heap.size w W) => (rowOf_r L a js ca aa l cl h dir hL1 hL2 hJ (fun j hj => by have := hC j hj; omega) hn W (hI.below hW) (hA.below hW)).mono fun e w' H => rowF_of hL1 hL2 hJ hC H)
  have HLB := Lib.hid (And.intro hL1 hL2)
  obtain ⟨n0, hi, hz0, hz1, hz2⟩ := info_parts infoInt
  clear hI hA hJ hC
  go_enter Tryz.func49, Tryz.ntmps49
  go_wp2_with fail
  obtain ⟨wB, hwB⟩ : ∃ wB, ((w.alloc (.cells #[.int .i64 L, .slice a js.length ca] 24)).alloc (.cells #[.int .i64 tp, .int .i64 dir] 86)).alloc (.cells #[.nilFunc, .slice none 0 0] 102) = wB := ⟨_, rfl⟩
  have hb : Below w.heap.size w wB := by rw [← hwB]; exact (((Below.refl _ _).alloc (Nat.le_refl _) _).alloc (by simp) _).alloc (by simp; omega) _
  have hsz : w.heap.size + 2 < wB.heap.size := by rw [← hwB]; simp
  have l0 : wB.cell? ⟨w.heap.size, 0, none⟩ = some (.int .i64 L) := by rw [← hwB]; simp [go_sem]
  have l1 : wB.cell? ⟨w.heap.size, 1, none⟩ = some (.slice a js.length ca) := by rw [← hwB]; simp [go_sem]
  have y0 : wB.cell? ⟨w.heap.size + 1, 0, none⟩ = some (.int .i64 tp) := by rw [← hwB]; simp [go_sem]
  have y1 : wB.cell? ⟨w.heap.size + 1, 1, none⟩ = some (.int .i64 dir) := by rw [← hwB]; simp [go_sem]
  have r0 : wB.cell? ⟨w.heap.size + 1 + 1, 0, none⟩ = some .nilFunc := by rw [← hwB]; simp [go_sem]
  have r1 : wB.cell? ⟨w.heap.size + 1 + 1, 1, none⟩ = some (.slice none 0 0) := by rw [← hwB]; simp [go_sem]
  have fr : wB.frozen? ⟨w.heap.size + 1 + 1, 0, none⟩ = false ∧ wB.frozen? ⟨w.heap.size + 1 + 1, 1, none⟩ = false := by rw [← hwB]; simp [go_sem]
  have HFR := Lib.hid fr
  have hrh : wB.heap[w.heap.size + 1 + 1]? = some (.cells #[.nilFunc, .slice none 0 0] 102) := by rw [← hwB]; have := heap_alloc_new ((w.alloc (.cells #[.int .i64 L, .slice a js.length ca] 24)).alloc (.cells #[.int .i64 tp, .int .i64 dir] 86)) (.cells #[.nilFunc, .slice none 0 0] 102); simpa using this
  have HRH := Lib.hid hrh
  clear hrh
  rw [hwB]
  clear hwB fr
  refine (HR.out _ hb).mono ?_
  rintro E w1 ⟨row, ar, cr, hRL, hrl, hbd, rfl, hPS, hb1⟩
  replace l0 := cell_below l0 hb1
  replace l1 := cell_below l1 hb1
  replace y0 := cell_below y0 hb1
  replace y1 := cell_below y1 hb1
  replace r0 := cell_below r0 hb1
  replace r1 := cell_below r1 hb1
  have f0 := (hb1.frozen (p := ⟨w.heap.size + 1 + 1, 0, none⟩) (by simp; omega)).trans HFR.out.1
  have f1 := (hb1.frozen (p := ⟨w.heap.size + 1 + 1, 1, none⟩) (by simp; omega)).trans HFR.out.2
  have hs1 := hb1.size
  have hw1 := hb.trans (hb1.mono hb.size)
  have HRL := Lib.hid hRL
  have HBd := Lib.hid hbd
  have HPS := Lib.hid hPS
  have hbB1 := Lib.hid hb1
  clear hRL hbd hPS hb1 HFR HR
  have hz4 : w.heap.size < w1.heap.size := block_lt l0
  go_upto_region 2 with (fail)
  obtain ⟨wX, hwX⟩ : ∃ wX, w1.alloc (.cells #[.slice ar row.length cr] 68) = wX := ⟨_, rfl⟩
  have hbX : Below w1.heap.size w1 wX := by rw [← hwX]; exact (Below.refl _ _).alloc (Nat.le_refl _) _
  have q0 : wX.cell? ⟨w1.heap.size, 0, none⟩ = some (.slice ar row.length cr) := by rw [← hwX]; simp [go_sem]
  rw [hwX]
  clear hwX
  replace l0 := cell_below l0 hbX
  replace l1 := cell_below l1 hbX
  replace y0 := cell_below y0 hbX
  replace y1 := cell_below y1 hbX
  have HR0 := Lib.hid (cell_below r0 hbX)
  have HR1 := Lib.hid (cell_below r1 hbX)
  replace f0 := (hbX.frozen (p := ⟨w.heap.size + 1 + 1, 0, none⟩) (by simp; omega)).trans f0
  replace f1 := (hbX.frozen (p := ⟨w.heap.size + 1 + 1, 1, none⟩) (by simp; omega)).trans f1
  have HF01 := Lib.hid (And.intro f0 f1)
  have HPX := Lib.hid (HPS.out.below hbX)
  have hwX := hw1.trans (hbX.mono hw1.size)
  have hsX := hbX.size
  have hbX1 := Lib.hid hbX
  clear r0 r1 f0 f1 HPS hbX
  have hzq := block_lt q0
  have HY0 := Lib.hid y0
  have HL0 := Lib.hid l0
  have HL1 := Lib.hid l1
  have HY1 := Lib.hid y1
  have HQ0 := Lib.hid q0
  have hown0 : Hid ((wX.alloc (.cells #[.int .i64 0, .int .i64 L] 3)).ownsRow wX.heap.size 3 1 (.slice (some ⟨wX.heap.size, 0, none⟩) (cutsK L dir row 0).length 2) (cutsK L dir row 0).length (clI (cutsK L dir row 0))) := Lib.hid (by
    exact ⟨rfl, .inr ⟨wX.heap.size, 2, #[.int .i64 0, .int .i64 L], rfl, Nat.le_refl _, heap_alloc_new _ _, Nat.le_refl 2, by decide, rfl, rfl⟩⟩)
  clear y0
  obtain ⟨-, pb, po, pad, pcp, hpa, hpc⟩ := HPX.out
  have HPC := Lib.hid hpc
  have HPA : Hid (0 < row.length → ar = some ⟨pb, po, none⟩) := Lib.hid fun h => hpa (List.ne_nil_of_length_pos h)
  clear hpa hpc
  go_wp2_with fail
  have hbX0 : Below wX.heap.size wX (wX.alloc (.cells #[.int .i64 0, .int .i64 L] 3)) := (Below.refl _ _).alloc (Nat.le_refl _) _
  have HBX0 := Lib.hid hbX0
  clear hbX0
  have hlen2 := cutsK_len L dir row
  have HLen2 := Lib.hid hlen2
  clear hlen2 l0 l1 y1
  go_loopw [10, 24] (fun q i9 wr => ∃ k : Nat, k ≤ row.length ∧ i9 = .int .i64 k ∧ (∃ a c, q = .slice a (cutsK L dir row k).length c) ∧ Hid (wr.ownsRow wX.heap.size 3 1 q (cutsK L dir row k).length (clI (cutsK L dir row k))) ∧ Below wX.heap.size wX wr) (fun _ i9 _ => row.length - (intOf i9).toNat)
  case atStart => exact ⟨0, Nat.zero_le _, rfl, ⟨_, _, rfl⟩, hown0, HBX0.out⟩
  case round =>
    clear hown0
    obtain ⟨k, hk, rfl, ⟨av, cv, rfl⟩, HRow, hbr⟩ := hrel
    have l0 := cell_below HL0.out hbr
    have l1 := cell_below HL1.out hbr
    have y1 := cell_below HY1.out hbr
    have hz4 : w.heap.size < wX.heap.size := block_lt HL0.out
    have hz7 : w.heap.size + 1 < wX.heap.size := block_lt HY1.out
    by_cases hlt : k < row.length
    · obtain rfl := HPA.out (by omega)
      obtain ⟨⟨⟨c0, c1, c2, c3, c4, c5, c6, c7⟩, c8, c9, c10, c11⟩, -⟩ := HPC.out k hlt
      have c0 := cell_below c0 hbr
      have c1 := cell_below c1 hbr
      have c2 := cell_below c2 hbr
      have c3 := cell_below c3 hbr
      have c4 := cell_below c4 hbr
      have c5 := cell_below c5 hbr
      have c6 := cell_below c6 hbr
      have c7 := cell_below c7 hbr
      have c8 := cell_below c8 hbr
      have c9 := cell_below c9 hbr
      have c10 := cell_below c10 hbr
      have c11 := cell_below c11 hbr
      have hbk := HBd.out (gq row k) (by unfold gq; rw [List.getD_eq_getElem?_getD, List.getElem?_eq_getElem hlt]; exact List.getElem_mem hlt)
      have hll := HLen2.out k
      have HPair : Hid (clI (cutsK L dir row (k + 1)) = clI (cutsK L dir row k) ++ [.int .i64 (dstK L dir (gq row k).d), .int .i64 (dstK L dir (gq row k).u)] ∧ (cutsK L dir row (k + 1)).length = (cutsK L dir row k).length + 2) := Lib.hid ⟨cutsK_pair L dir row k, by rw [HLen2.out, HLen2.out]; omega⟩
      have HD1 := Lib.hid (fun W => distance_r L a js.length ca dir (gq row k).d HLB.out.1 HLB.out.2 (by omega) (by omega) W)
      have HD2 := Lib.hid (fun W => distance_r L a js.length ca dir (gq row k).u HLB.out.1 HLB.out.2 (by omega) (by omega) W)
      have hsr := hbr.size
      have HNe : Hid (some wr.heap.size ≠ (Value.slice av (cutsK L dir row k).length cv).ownBlock) := Lib.hid fun e => by
        have := (World.ownsRow.lt HRow.out _ e.symm).2
        omega
      have hcl : (cutsK L dir row k).length ≤ 10000 := by omega
      clear HPC HPA hbk hll
      generalize pad k = adk at *
      generalize pcp k = cpk at *
      obtain ⟨x, hx⟩ : ∃ x, gq row k = x := ⟨_, rfl⟩
      rw [hx] at HPair HD1 HD2 c0 c1 c2 c3 c4 c5 c6 c7 c8 c9 c10 c11
      clear hx
      obtain ⟨D, hD⟩ : ∃ D, x.d = D := ⟨_, rfl⟩
      obtain ⟨U, hU⟩ : ∃ U, x.u = U := ⟨_, rfl⟩
      rw [hD] at HPair HD1 c9
      rw [hU] at HPair HD2 c10
      clear hD hU
      obtain ⟨CQ, hCQ⟩ : ∃ CQ, cutsK L dir row k = CQ := ⟨_, rfl⟩
      rw [hCQ] at HRow HNe HPair hcl ⊢
      clear hCQ
      go_upto_region 6 with (fail)
      obtain ⟨ws, hws⟩ : ∃ ws, wr.alloc (.cells #[.int .i64 x.s.n, .int .i64 x.s.k, .int .i64 x.s.v, .int .i64 x.s.c, .int .i64 x.s.d, .int .i64 x.s.rk, .int .i64 x.s.up, .int .i64 x.s.dn, .slice adk x.s.cv.length cpk, .int .i64 D, .int .i64 U, .bool x.b] 88) = ws := ⟨_, rfl⟩
      have hbs0 : Below wr.heap.size wr ws := by rw [← hws]; exact (Below.refl _ _).alloc (Nat.le_refl _) _
      have x9 : ws.cell? ⟨wr.heap.size, 9, none⟩ = some (.int .i64 D) := by rw [← hws]; simp [go_sem]
      have x10 : ws.cell? ⟨wr.heap.size, 10, none⟩ = some (.int .i64 U) := by rw [← hws]; simp [go_sem]
      rw [hws]
      clear hws
      have HRow := Lib.hid (owns_belowI HRow.out hbs0)
      have hbs : Below wX.heap.size wX ws := hbr.trans (hbs0.mono hsr)
      replace l0 := cell_below l0 hbs0
      replace l1 := cell_below l1 hbs0
      replace y1 := cell_below y1 hbs0
      have hss := hbs0.size
      have hzp := block_lt x9
      have hsX2 := hbs.size
      clear c0 c1 c2 c3 c4 c5 c6 c7 c8 c9 c10 c11 hbr hbs0
      refine wp_region_held_drew (S := fun w' => Below wX.heap.size ws w' ∧ w'.heap[wr.heap.size]? = ws.heap[wr.heap.size]?) (by kernel_rfl) ⟨(Below.refl _ _).drew, rfl⟩ (fun hHeld => ?_)
      refine takeU (i := 0) (some 28) (.slice av CQ.length cv) (by kernel_rfl) (by kernel_rfl) (by kernel_rfl) (by kernel_rfl) (by kernel_rfl) (fun _ => by kernel_rfl) (fun _ _ _ h => h) hHeld ?_
      refine wpAnyH_take (i := 1) (oi := { dst := some 29, op := Go.Op.load 24 (Go.Operand.tmp 4), type := 24, pos := "hold.go:109", after := #[], guard := none }) (v := .agg #[.int .i64 L, .slice a js.length ca]) rfl (by kernel_rfl) (by kernel_rfl) (by kernel_rfl) (fun _ _ _ h => h) (.inl ⟨by kernel_rfl, fun w9 h9 => by
        clear hHeld
        have d0 := (h9.1.cell (p := ⟨w.heap.size, 0, none⟩) hz4).trans l0
        have d1 := (h9.1.cell (p := ⟨w.heap.size, 1, none⟩) hz4).trans l1
        clear h9
        go_simp⟩) hHeld ?_
      refine takeU (i := 2) (some 30) (.pointer (some ⟨w.heap.size + 1, 1, none⟩)) (by kernel_rfl) (by kernel_rfl) (by kernel_rfl) (by kernel_rfl) (by kernel_rfl) (fun _ => by kernel_rfl) (fun _ _ _ h => h) hHeld ?_
      refine wpAnyH_take (i := 3) (oi := { dst := some 31, op := Go.Op.load 3 (Go.Operand.tmp 30), type := 3, pos := "hold.go:109", after := #[{ on := 2, ground := Go.Ground.data }], guard := none }) (v := .int .i64 dir) rfl (by kernel_rfl) (by kernel_rfl) (by kernel_rfl) (fun _ _ _ h => h) (.inl ⟨by kernel_rfl, fun w9 h9 => by
        clear hHeld
        have d0 := (h9.1.cell (p := ⟨w.heap.size + 1, 1, none⟩) hz7).trans y1
        clear h9
        go_simp⟩) hHeld ?_
      refine takeU (i := 4) (some 32) (.pointer (some ⟨wr.heap.size, 9, none⟩)) (by kernel_rfl) (by kernel_rfl) (by kernel_rfl) (by kernel_rfl) (by kernel_rfl) (fun _ => by kernel_rfl) (fun _ _ _ h => h) hHeld ?_
      refine wpAnyH_take (i := 5) (oi := { dst := some 33, op := Go.Op.load 3 (Go.Operand.tmp 32), type := 3, pos := "hold.go:109", after := #[{ on := 4, ground := Go.Ground.data }], guard := none }) (v := .int .i64 D) rfl (by kernel_rfl) (by kernel_rfl) (by kernel_rfl) (fun _ _ _ h => h) (.inl ⟨by kernel_rfl, fun w9 h9 => by
        clear hHeld
        have d0 := (World.cell?_of_block (w := ws) (w' := w9) (a := ⟨wr.heap.size, 9, none⟩) h9.2).trans x9
        clear h9
        go_simp⟩) hHeld ?_
      refine wpAnyH_take (i := 7) (oi := { dst := some 35, op := Go.Op.load 24 (Go.Operand.tmp 4), type := 24, pos := "hold.go:109", after := #[], guard := none }) (v := .agg #[.int .i64 L, .slice a js.length ca]) rfl (by kernel_rfl) (by kernel_rfl) (by kernel_rfl) (fun _ _ _ h => h) (.inl ⟨by kernel_rfl, fun w9 h9 => by
        clear hHeld
        have d0 := (h9.1.cell (p := ⟨w.heap.size, 0, none⟩) hz4).trans l0
        have d1 := (h9.1.cell (p := ⟨w.heap.size, 1, none⟩) hz4).trans l1
        clear h9
        go_simp⟩) hHeld ?_
      refine takeU (i := 8) (some 36) (.pointer (some ⟨w.heap.size + 1, 1, none⟩)) (by kernel_rfl) (by kernel_rfl) (by kernel_rfl) (by kernel_rfl) (by kernel_rfl) (fun _ => by kernel_rfl) (fun _ _ _ h => h) hHeld ?_
      refine wpAnyH_take (i := 9) (oi := { dst := some 37, op := Go.Op.load 3 (Go.Operand.tmp 36), type := 3, pos := "hold.go:109", after := #[{ on := 8, ground := Go.Ground.data }], guard := none }) (v := .int .i64 dir) rfl (by kernel_rfl) (by kernel_rfl) (by kernel_rfl) (fun _ _ _ h => h) (.inl ⟨by kernel_rfl, fun w9 h9 => by
        clear hHeld
        have d0 := (h9.1.cell (p := ⟨w.heap.size + 1, 1, none⟩) hz7).trans y1
        clear h9
        go_simp⟩) hHeld ?_
      refine takeU (i := 10) (some 38) (.pointer (some ⟨wr.heap.size, 10, none⟩)) (by kernel_rfl) (by kernel_rfl) (by kernel_rfl) (by kernel_rfl) (by kernel_rfl) (fun _ => by kernel_rfl) (fun _ _ _ h => h) hHeld ?_
      refine wpAnyH_take (i := 11) (oi := { dst := some 39, op := Go.Op.load 3 (Go.Operand.tmp 38), type := 3, pos := "hold.go:109", after := #[{ on := 10, ground := Go.Ground.data }], guard := none }) (v := .int .i64 U) rfl (by kernel_rfl) (by kernel_rfl) (by kernel_rfl) (fun _ _ _ h => h) (.inl ⟨by kernel_rfl, fun w9 h9 => by
        clear hHeld
        have d0 := (World.cell?_of_block (w := ws) (w' := w9) (a := ⟨wr.heap.size, 10, none⟩) h9.2).trans x10
        clear h9
        go_simp⟩) hHeld ?_
      try simp only [Act.put, List.setIfInBounds_toArray, List.set_cons_zero, List.set_cons_succ]
      refine wpAnyH_ready (rs := [6]) (by kernel_rfl) (by simp) ?_
      refine AllReadyH.cons (o := { dst := some 34, op := Go.Op.call { callee := Go.Callee.value (Go.Operand.func 61), args := #[Go.Operand.tmp 29, Go.Operand.tmp 31, Go.Operand.tmp 33], argTypes := #[24, 3, 3] }, type := 3, pos := "hold.go:109", after := #[{ on := 1, ground := Go.Ground.data }, { on := 3, ground := Go.Ground.data }, { on := 5, ground := Go.Ground.data }], guard := none }) rfl (fun K hK => ?_) AllReadyH.nil
      go_simp
      go_at_call 61
      refine (HD1.out _).mono ?_
      rintro e w6 ⟨rfl, hb6⟩
      have hw6 : Below ws.heap.size ws w6 := ((Below.refl ws.heap.size ws).drew).trans (hb6.mono ((Below.refl ws.heap.size ws).drew).size)
      have hs6 := hw6.size
      refine hK.out _ _ ⟨hHeld.1.trans (hb6.mono (by have := hHeld.1.size; omega)), (hb6.block wr.heap.size (by have := hHeld.1.size; omega)).trans hHeld.2⟩ (fun hHeld => ?_)
      clear hK K hb6
      try simp only [Act.put, List.setIfInBounds_toArray, List.set_cons_zero, List.set_cons_succ]
      refine wpAnyH_ready (rs := [12]) (by kernel_rfl) (by simp) ?_
      refine AllReadyH.cons (o := { dst := some 40, op := Go.Op.call { callee := Go.Callee.value (Go.Operand.func 61), args := #[Go.Operand.tmp 35, Go.Operand.tmp 37, Go.Operand.tmp 39], argTypes := #[24, 3, 3] }, type := 3, pos := "hold.go:109", after := #[{ on := 7, ground := Go.Ground.data }, { on := 9, ground := Go.Ground.data }, { on := 11, ground := Go.Ground.data }, { on := 6, ground := Go.Ground.chain }], guard := none }) rfl (fun K hK => ?_) AllReadyH.nil
      go_simp
      go_at_call 61
      refine (HD2.out _).mono ?_
      rintro e w12 ⟨rfl, hb12⟩
      have hw12 : Below ws.heap.size ws w12 := (hw6).trans (hb12.mono (hw6).size)
      have hs12 := hw12.size
      refine hK.out _ _ ⟨hHeld.1.trans (hb12.mono (by have := hHeld.1.size; omega)), (hb12.block wr.heap.size (by have := hHeld.1.size; omega)).trans hHeld.2⟩ (fun hHeld => ?_)
      clear hK K hb12
      try simp only [Act.put, List.setIfInBounds_toArray, List.set_cons_zero, List.set_cons_succ]
      refine wpAnyH_ready (rs := [13]) (by kernel_rfl) (by simp) ?_
      refine AllReadyH.cons (o := { dst := some 41, op := Go.Op.buildSlice 22 2 #[(0, Go.Operand.tmp 34), (1, Go.Operand.tmp 40)], type := 22, pos := "hold.go:109", after := #[{ on := 6, ground := Go.Ground.data }, { on := 12, ground := Go.Ground.data }], guard := none }) rfl (fun K hK => ?_) AllReadyH.nil
      go_simp
      refine hK.out _ _ ⟨hHeld.1.alloc (by omega) _, (Below.heap_alloc _ _ _ (by omega)).trans hHeld.2⟩ (fun hHeld => ?_)
      clear hK K
      refine wpAnyH_ready (rs := [14]) (by kernel_rfl) (by simp) ?_
      refine AllReadyH.cons (o := { dst := some 42, op := Go.Op.call { callee := Go.Callee.builtin Go.Builtin.append, args := #[Go.Operand.tmp 28, Go.Operand.tmp 41], argTypes := #[22, 22] }, type := 22, pos := "hold.go:109", after := #[{ on := 0, ground := Go.Ground.data }, { on := 13, ground := Go.Ground.data }, { on := 12, ground := Go.Ground.chain }], guard := none }) rfl (fun K hK => ?_) AllReadyH.nil
      refine step_append_lies _ (by rfl) _ _ _ (by rfl) wX.heap.size 3 n0 _ 1 8 Tryz.underlying22 hi hz0 hz1 hz2 rfl (by decide) (.slice av CQ.length cv) CQ.length _ (by rfl) (owns_belowI HRow.out (hw12.alloc hs12 _)) ⟨w12.heap.size, 0, none⟩ 2 2 [.int .i64 (dstK L dir D), .int .i64 (dstK L dir U)] (by rfl) (by rfl) (World.news_of_block (w := w12.alloc (.cells #[.int .i64 (dstK L dir D), .int .i64 (dstK L dir U)] 3)) (B := w12.heap.size) (cs := #[.int .i64 (dstK L dir D), .int .i64 (dstK L dir U)]) (t := 3) (fr := (0, 0)) (heap_alloc_new _ _)) (by simp [Value.oneCell']) (by decide) (by unfold maxLen; omega) (by omega) (by simp; omega) _ rfl ?_
      intro g6 c6 w6 hown6 hgrow6 hat6 hlt6
      refine hK.out _ _ ⟨hHeld.1.grown hgrow6 (by simp; omega) (fun z hz => owns_blockI HRow.out hz), (hgrow6.block wr.heap.size (by simp; omega) HNe.out).trans hHeld.2⟩ (fun hHeld => ?_)
      have hb6 : Below wX.heap.size wX w6 := hbs.trans hHeld.1
      have hown6 := Lib.hid hown6
      clear hK K hgrow6 hat6 hlt6
      try simp only [Act.put, List.setIfInBounds_toArray, List.set_cons_zero, List.set_cons_succ]
      refine takeU (i := 15) (some 10) (.slice (some ⟨g6, 0, none⟩) (CQ.length + 2) c6) (by kernel_rfl) (by kernel_rfl) (by kernel_rfl) (by kernel_rfl) (by kernel_rfl) (fun _ => by kernel_rfl) (fun _ _ _ h => h) hHeld ?_
      refine wpAnyH_done (by kernel_rfl) ?_ _
      try simp only [Act.put, List.setIfInBounds_toArray, List.set_cons_zero, List.set_cons_succ]
      go_wp2_with fail
      go_roundw
      case rel => exact ⟨k + 1, by omega, by go_num, ⟨some ⟨g6, 0, none⟩, c6, by rw [HPair.out.2]⟩, Lib.hid (by rw [HPair.out.1, HPair.out.2]; exact hown6.out), hb6⟩
      case measure => simp [intOf]; omega
    · obtain rfl : k = row.length := by omega
      have hbw := hwX.trans (hbr.mono hwX.size)
      have r0 := cell_below HR0.out hbr
      have r1 := cell_below HR1.out hbr
      have f0 := (hbr.frozen (p := ⟨w.heap.size + 1 + 1, 0, none⟩) (block_lt HR0.out)).trans HF01.out.1
      have f1 := (hbr.frozen (p := ⟨w.heap.size + 1 + 1, 1, none⟩) (block_lt HR1.out)).trans HF01.out.2
      have HRW : Hid (wr.heap[w.heap.size + 1 + 1]? = some (.cells #[.nilFunc, .slice none 0 0] 102)) := Lib.hid ((((hbB1.out.trans (hbX1.out.mono hbB1.out.size)).trans (hbr.mono (by have := hbB1.out.size; have := hbX1.out.size; omega))).block _ (by omega)).trans HRH.out)
      have HPr := Lib.hid (HPX.out.below hbr)
      have q0 := cell_below HQ0.out hbr
      have y0 := cell_below HY0.out hbr
      have HFar : Hid (∀ v0 v1 b, b ≠ w.heap.size + 1 + 1 → ((wr.setCell ⟨w.heap.size + 1 + 1, 0, none⟩ v0).setCell ⟨w.heap.size + 1 + 1, 1, none⟩ v1).heap[b]? = wr.heap[b]?) := Lib.hid fun v0 v1 b hb => (Below.heap_setCell _ _ _ _ (by simpa using hb)).trans (Below.heap_setCell _ _ _ _ (by simpa using hb))
      have HBf : Hid (∀ v0 v1, Below w.heap.size w ((wr.setCell ⟨w.heap.size + 1 + 1, 0, none⟩ v0).setCell ⟨w.heap.size + 1 + 1, 1, none⟩ v1)) := Lib.hid fun v0 v1 => (hbw.setCell (p := ⟨w.heap.size + 1 + 1, 0, none⟩) (by simp; omega) _).setCell (p := ⟨w.heap.size + 1 + 1, 1, none⟩) (by simp; omega) _
      have Q0 := Lib.hid q0
      have Y0 := Lib.hid y0
      have L0 := Lib.hid l0
      have L1 := Lib.hid l1
      have Y1 := Lib.hid y1
      have hlc := HLen2.out row.length
      have HLc := Lib.hid hlc
      have hsr := hbr.size
      clear q0 y0 hbr hbw hlc l0 l1 y1
      go_wp2_with fail
      refine bodyPost_ret (v := .agg #[.func (.func 81) #[] #[.pointer (some ⟨w1.heap.size, 0, none⟩), .pointer (some ⟨w.heap.size + 1, 0, none⟩), .pointer (some ⟨w.heap.size, 0, none⟩)], .slice av (cutsK L dir row row.length).length cv]) (by simp [results, Tryz.results49, go_sem, r0, r1]) rfl ?_
      have tr : ∀ v0 v1 b o v, b ≠ w.heap.size + 1 + 1 → wr.cell? ⟨b, o, none⟩ = some v → ((wr.setCell ⟨w.heap.size + 1 + 1, 0, none⟩ v0).setCell ⟨w.heap.size + 1 + 1, 1, none⟩ v1).cell? ⟨b, o, none⟩ = some v := fun v0 v1 b o v hb hc => (World.cell?_of_block (w := wr) (a := ⟨b, o, none⟩) (HFar.out v0 v1 b hb)).trans hc
      refine ⟨row, ar, cr, w1.heap.size, w.heap.size + 1, w.heap.size, av, cv, HRL.out, hrl, pst_far HPr.out (fun b o k n hc => HFar.out _ _ b (cell_neF HRW.out hc)), tr _ _ _ _ _ (by omega) Q0.out, tr _ _ _ _ _ (by omega) Y0.out, tr _ _ _ _ _ (by omega) Y1.out, tr _ _ _ _ _ (by omega) L0.out, tr _ _ _ _ _ (by omega) L1.out, rfl, ?_, cutsK_bd HLB.out.1 HLB.out.2 HBd.out row.length (Nat.le_refl _), HBf.out _ _⟩
      have hcb := cutsK_bd HLB.out.1 HLB.out.2 HBd.out (dir := dir) row.length (Nat.le_refl _)
      refine ⟨by rw [HLc.out]; omega, fun i hi => ?_, ?_⟩
      · have := hcb (gi (cutsK L dir row row.length) i) (by unfold gi; rw [List.getD_eq_getElem?_getD, List.getElem?_eq_getElem hi]; exact List.getElem_mem hi)
        unfold I64
        omega
      · rcases HRow.out.2 with ⟨h1, h2⟩ | ⟨g2, c2, cur, h1, hg2, hb2, _⟩
        · exact absurd h2 (by rw [HLc.out]; omega)
        · obtain ⟨rfl, rfl⟩ : av = some ⟨g2, 0, none⟩ ∧ cv = c2 := by simpa using h1
          refine ⟨g2, 0, fun _ => rfl, fun i hi => ?_⟩
          rw [Nat.zero_add]
          refine tr _ _ _ _ _ (by omega) ?_
          rw [World.ownsRow.cellAt HRow.out i (by omega)]; exact clI_get _ hi
end Go.Proofs.YtjoffnbpaebgjaaGreat
