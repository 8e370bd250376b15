/-
  Rows of signs in order, in memory, and what the second loop of rowOf makes of them. By an AI agent.; The first loop of rowOf of package rule. By an AI agent.; The course of what signs make hold: told and its closure. By an AI agent.; The reference's ValidSigns and ValidEdicts. By an AI agent.; The row of a direction: the program's order and that of insertion are one. By an AI agent.
-/
import Derived.Test.YtneafbhiencjlaaGreatDoorMgRuleProposed3
import Derived.Test.YtneafbhiencjlaaGreatDoorMgRuleProposed4
import Derived.Laws.EntriesVeiled
import Derived.Deep.RegionHeld3
import Derived.Deep.AppendLies
import Derived.BigQuiet
import Derived.BigRegion

namespace Go.Proofs.YtneafbhiencjlaaGreatDoor
set_option linter.unusedVariables false
set_option linter.unusedSimpArgs false
open Go.RowKit Go.Shelf

/-- Values from the head of a block on, which may be stored to. -/
def CelP (w : World) (g : Nat) (L : List Value) : Prop := ∀ j u, L[j]? = some u → w.cell? ⟨g, j, none⟩ = some u ∧ w.frozen? ⟨g, j, none⟩ = false
theorem CelP.same {w w' : World} {g : Nat} {L : List Value} (h : CelP w g L) (hb : w'.heap[g]? = w.heap[g]?) : CelP w' g L := fun j u hu =>
  ⟨(World.cell?_of_block (w := w) (w' := w') (a := ⟨g, j, none⟩) hb).trans (h j u hu).1, (World.frozen?_of_block (w := w) (w' := w') (a := ⟨g, j, none⟩) hb).trans (h j u hu).2⟩
theorem CelP.below {w w' : World} {g : Nat} {L : List Value} (h : CelP w g L) (hb : Below w.heap.size w w') : CelP w' g L := fun j u hu =>
  ⟨cell_below (h j u hu).1 hb, (hb.frozen (p := ⟨g, j, none⟩) (block_lt (h j u hu).1)).trans (h j u hu).2⟩
theorem CelP.drew {w : World} {g : Nat} {L : List Value} (h : CelP w g L) : CelP w.drew g L := h
theorem CelP.set {w : World} {g : Nat} {L : List Value} (h : CelP w g L) {j : Nat} {v : Value} (hj : j < L.length) : CelP (w.setCell ⟨g, j, none⟩ v) g (L.set j v) := by
  intro i u hu
  rw [List.getElem?_set] at hu
  have hc := (h j L[j] (List.getElem?_eq_getElem hj)).1
  by_cases e : j = i
  · subst e
    simp [hj] at hu
    subst hu
    have hf := (h j L[j] (List.getElem?_eq_getElem hj)).2
    exact ⟨by simp [go_sem, hc], by simp [go_sem, hf]⟩
  · rw [if_neg e] at hu
    obtain ⟨h1, h2⟩ := h i u hu
    refine ⟨?_, ?_⟩
    · rw [World.cell?_setCell_other _ _ _ _ (by intro q; apply e; simpa using congrArg Addr.off q)]; exact h1
    · simpa [go_sem] using h2
theorem clP_c : ∀ (s : List PE) (i : Nat), i < s.length → ∀ c, c < 12 → (clP s)[i * 12 + c]? = (encP s[i]!)[c]?
  | [], i, hi, c, hc => by simp at hi
  | p :: s, 0, hi, c, hc => by
    unfold clP
    rw [List.flatMap_cons, List.getElem?_append_left (by rw [encP_len]; omega), Nat.zero_mul, Nat.zero_add]; rfl
  | p :: s, i + 1, hi, c, hc => by
    have ih := clP_c s i (by simpa using hi) c hc
    unfold clP at *
    rw [List.flatMap_cons, List.getElem?_append_right (by rw [encP_len]; omega), encP_len, show (i + 1) * 12 + c - 12 = i * 12 + c by omega, ih]; rfl
theorem clP_setb : ∀ (s : List PE) (i : Nat) (b : Bool), i < s.length → (clP s).set (i * 12 + 11) (.bool b) = clP (s.set i ({ s[i]!.1 with b := b }, s[i]!.2))
  | [], i, b, hi => by simp at hi
  | p :: s, 0, b, hi => by simp [clP, encP]
  | p :: s, i + 1, b, hi => by
    have ih := clP_setb s i b (by simpa using hi)
    unfold clP at *
    rw [List.flatMap_cons, List.set_append_right _ _ (by rw [encP_len]; omega), encP_len, show (i + 1) * 12 + 11 - 12 = i * 12 + 11 by omega, ih]
    rfl
theorem clP_setu : ∀ (s : List PE) (i : Nat) (u : Int), i < s.length → (clP s).set (i * 12 + 10) (.int .i64 u) = clP (s.set i ({ s[i]!.1 with u := u }, s[i]!.2))
  | [], i, u, hi => by simp at hi
  | p :: s, 0, u, hi => by simp [clP, encP]
  | p :: s, i + 1, u, hi => by
    have ih := clP_setu s i u (by simpa using hi)
    unfold clP at *
    rw [List.flatMap_cons, List.set_append_right _ _ (by rw [encP_len]; omega), encP_len, show (i + 1) * 12 + 10 - 12 = i * 12 + 10 by omega, ih]
    rfl
theorem celP_holds {w : World} {g : Nat} {d : Array PE} (h : Sort.HoldsK encP 12 w g 0 d) : CelP w g (clP d.toList) := by
  intro j u hu
  have hj : j < d.size * 12 := by
    have := (List.getElem?_eq_some_iff.1 hu).1
    rw [clP_len] at this
    simpa using this
  have h9 := h j (by rw [Sort.size_flatK]; exact hj)
  rw [Sort.get_flatK _ _ _ _ hj, Nat.zero_add] at h9
  rw [clP_get d.toList j (by simpa using hj)] at hu
  have e : d[j / 12]! = d.toList[j / 12]! := by
    have hd : j / 12 < d.size := by omega
    rw [getElem!_pos _ (j / 12) hd, getElem!_pos _ (j / 12) (by simpa using hd)]; simp
  rw [← e] at hu
  simp only [Option.some.injEq] at hu
  rw [← hu]
  exact h9
/-- Is y a plate of the start x? -/
def cndP (x y : Pst) : Bool := (topK x.s.k != 0) && ((y.s.k == 7) && (y.d == x.d))
/-- What t steps of the second loop leave of the row: a step looks at neighbours j, j + 1. -/
def finP (s : List PE) : Nat → List PE
  | 0 => s
  | t + 1 => if cndP (finP s t)[t]!.1 (finP s t)[t + 1]!.1 = true then
      ((finP s t).set (t + 1) ({ (finP s t)[t + 1]!.1 with b := true }, (finP s t)[t + 1]!.2)).set t ({ (finP s t)[t]!.1 with u := min (finP s t)[t]!.1.u ((finP s t)[t]!.1.d + (finP s t)[t + 1]!.1.s.v) }, (finP s t)[t]!.2)
    else finP s t
theorem finP_len (s : List PE) : ∀ t, (finP s t).length = s.length
  | 0 => rfl
  | t + 1 => by rw [finP]; split <;> simp [finP_len s t]
/-- slices.SortFunc's answer at a row that a call owns. -/
def SrtE (base : Nat) (av : Option Addr) (R : List PE) (w : World) (e : Ending) (w' : World) : Prop :=
  e = .returned (.tuple #[]) ∧ ∃ l1 : List PE, l1.Perm R ∧ (∀ i j, i < j → j < l1.length → ¬ ahdP l1[j]!.1 l1[i]!.1) ∧ (∀ g, av = some ⟨g, 0, none⟩ → base ≤ g ∧ CelP w' g (clP l1)) ∧ Below base w w'
theorem sortRow_r (base B Fb cv : Nat) (av : Option Addr) (R : List PE) (w : World) (h : w.ownsRow base 110 12 (.slice av R.length cv) R.length (clP R)) (hn : R.length ≤ 100000000) (cB : w.cell? ⟨B, 0, none⟩ = some (.slice (some ⟨Fb, 0, none⟩) 3 3))
    (f0 : w.cell? ⟨Fb, 0, none⟩ = some (.func (.func 78) #[] #[])) (f1 : w.cell? ⟨Fb, 1, none⟩ = some (.func (.func 79) #[] #[])) (f2 : w.cell? ⟨Fb, 2, none⟩ = some (.func (.func 80) #[] #[])) (hB : ∀ g, av = some ⟨g, 0, none⟩ → B ≠ g ∧ Fb ≠ g) :
    Calls Tryz.prog 76 #[.slice av R.length cv, .func (.func 108) #[] #[.pointer (some ⟨B, 0, none⟩)]] w (SrtE base av R w) := by
  rcases h.2 with ⟨h1, h2⟩ | ⟨g, cap, cur, h1, hg, _⟩
  · have ha : av = none := by simpa using (Value.slice.inj h1).1
    have hR : R = [] := List.eq_nil_of_length_eq_zero h2
    subst ha; subst hR
    exact (sortPNil_r cv _ w).mono fun e w' ⟨he, hw⟩ => ⟨he, [], List.Perm.refl _, (fun i j _ hj => absurd hj (Nat.not_lt_zero _)), (fun g hg => by cases hg), (by rw [hw]; exact Below.refl _ _)⟩
  · obtain ⟨rfl, rfl⟩ : av = some ⟨g, 0, none⟩ ∧ cv = cap := by simpa using h1
    obtain ⟨b1, b2⟩ := hB g rfl
    refine (sortP_r base g cv B Fb R w h hn cB f0 f1 f2 b1 b2).mono ?_
    rintro e w' ⟨he, d, hp, hs, hso, hh, hb⟩
    refine ⟨he, d.toList, hp, fun i j hij hj => ?_, fun g' hg' => ?_, hb⟩
    · have hj2 : j < d.size := by simpa using hj
      have := hso i j hij hj2
      rw [getElem!_pos _ j hj2, getElem!_pos _ i (by omega)] at this
      rw [getElem!_pos _ j hj, getElem!_pos _ i (by omega)]
      simpa using this
    · cases hg'
      exact ⟨hg, celP_holds hh⟩
/-- by: a closure over the list of functions. -/
theorem by0_r (Fb : Nat) (w : World) : Calls Tryz.prog 77 #[.slice (some ⟨Fb, 0, none⟩) 3 3] w fun e w' => ∃ B, e = .returned (.func (.func 108) #[] #[.pointer (some ⟨B, 0, none⟩)]) ∧ w.heap.size ≤ B ∧ w'.cell? ⟨B, 0, none⟩ = some (.slice (some ⟨Fb, 0, none⟩) 3 3) ∧ Below w.heap.size w w' := by
  go_enter Tryz.func77, Tryz.ntmps77
  go_wp2_with fail
  go_ret
  exact ⟨w.heap.size, rfl, Nat.le_refl _, by simp [go_sem], (Below.refl _ _).alloc (Nat.le_refl _) _⟩
/-- What a walk wants of one element. -/
theorem celP_fields {w : World} {g : Nat} {s : List PE} (h : CelP w g (clP s)) {j : Nat} (hj : j < s.length) :
    w.cell? ⟨g, j * 12 + 1, none⟩ = some (.int .i64 s[j]!.1.s.k) ∧ w.cell? ⟨g, j * 12 + 2, none⟩ = some (.int .i64 s[j]!.1.s.v) ∧ w.cell? ⟨g, j * 12 + 9, none⟩ = some (.int .i64 s[j]!.1.d) ∧ w.cell? ⟨g, j * 12 + 10, none⟩ = some (.int .i64 s[j]!.1.u) ∧ w.cell? ⟨g, j * 12 + 11, none⟩ = some (.bool s[j]!.1.b) ∧
      w.frozen? ⟨g, j * 12 + 10, none⟩ = false ∧ w.frozen? ⟨g, j * 12 + 11, none⟩ = false := by
  have hc := clP_c s j hj
  exact ⟨(h _ _ (hc 1 (by omega))).1, (h _ _ (hc 2 (by omega))).1, (h _ _ (hc 9 (by omega))).1, (h _ _ (hc 10 (by omega))).1, (h _ _ (hc 11 (by omega))).1, (h _ _ (hc 10 (by omega))).2, (h _ _ (hc 11 (by omega))).2⟩
theorem set_same {α : Type} [Inhabited α] (s : List α) {i : Nat} (x : α) (hi : i < s.length) : (s.set i x)[i]! = x := by
  rw [getElem!_pos _ i (by simpa using hi)]; simp
theorem set_other {α : Type} [Inhabited α] (s : List α) {i j : Nat} (x : α) (h : i ≠ j) : (s.set i x)[j]! = s[j]! := by
  by_cases hj : j < s.length
  · rw [getElem!_pos _ j (by simpa using hj), getElem!_pos _ j hj]; simp [h]
  · rw [getElem!_neg _ j (by simpa using hj), getElem!_neg _ j hj]
/-- The second loop leaves the signs, their distances and the lists of covers. -/
theorem finP_keeps (s : List PE) : ∀ (t i : Nat), t < s.length → (finP s t)[i]!.1.s = s[i]!.1.s ∧ (finP s t)[i]!.1.d = s[i]!.1.d ∧ (finP s t)[i]!.2 = s[i]!.2
  | 0, i, _ => ⟨rfl, rfl, rfl⟩
  | t + 1, i, ht => by
    have ih := finP_keeps s t
    have hl := finP_len s t
    rw [finP]
    split
    · by_cases e : t = i
      · subst e
        rw [set_same _ _ (by simp; omega)]
        exact ih t (by omega)
      · rw [set_other _ _ e]
        by_cases e2 : t + 1 = i
        · subst e2
          rw [set_same _ _ (by omega)]
          exact ih (t + 1) (by omega)
        · rw [set_other _ _ e2]; exact ih i (by omega)
    · exact ih i (by omega)
theorem pst_of {w : World} {g : Nat} {s : List PE} (h : CelP w g (clP s)) (hn : s.length ≤ 100000000) (hp : ∀ i, i < s.length → PairsS w s[i]!.2.1 s[i]!.1.s.cv) : PstS w (some ⟨g, 0, none⟩) (s.map (·.1)) := by
  refine ⟨by simpa using hn, g, 0, fun i => s[i]!.2.1, fun i => s[i]!.2.2, fun _ => rfl, fun i hi => ?_⟩
  have hi2 : i < s.length := by simpa using hi
  have e : gq (s.map (·.1)) i = s[i]!.1 := by
    unfold gq
    rw [List.getD_eq_getElem?_getD, List.getElem?_map, List.getElem?_eq_getElem hi2, getElem!_pos _ i hi2]; rfl
  rw [e, Nat.zero_add]
  have hc := clP_c s i hi2
  refine ⟨⟨⟨?_, (h _ _ (hc 1 (by omega))).1, (h _ _ (hc 2 (by omega))).1, (h _ _ (hc 3 (by omega))).1, (h _ _ (hc 4 (by omega))).1, (h _ _ (hc 5 (by omega))).1, (h _ _ (hc 6 (by omega))).1, (h _ _ (hc 7 (by omega))).1⟩, (h _ _ (hc 8 (by omega))).1, (h _ _ (hc 9 (by omega))).1, (h _ _ (hc 10 (by omega))).1, (h _ _ (hc 11 (by omega))).1⟩, hp i hi2⟩
  exact (h _ _ (hc 0 (by omega))).1
end Go.Proofs.YtneafbhiencjlaaGreatDoor

namespace Go.Proofs.YtneafbhiencjlaaGreatDoor
set_option linter.unusedVariables false
set_option linter.unusedSimpArgs false
open Go.RowKit

theorem infoP : (Tryz.prog.info? 110).map (fun i => (i.zero, i.size, i.bytes)) = some (some (.agg #[.int .i64 0, .int .i64 0, .int .i64 0, .int .i64 0, .int .i64 0, .int .i64 0, .int .i64 0, .int .i64 0, .slice none 0 0, .int .i64 0, .int .i64 0, .bool false]), 12, 112) := by kernel_rfl
/-- Is a sign of the row? -/
def selB (dir h : Int) (s : Sgn) : Bool := (s.d == dir) && spkB s h
def mkP (L : Int) (js : List Int) (dir : Int) (s : Sgn) : Pst := ⟨s, dstK L dir s.c, opnK L js dir (dstK L dir s.c) js.length, false⟩
/-- The row of the first k signs, not yet in order. -/
def rowK (L : Int) (js : List Int) (dir h : Int) (l : List Sgn) (ad : Nat → Option Addr) (cp : Nat → Nat) : Nat → List PE
  | 0 => []
  | k + 1 => if selB dir h (gs l k) = true then rowK L js dir h l ad cp k ++ [(mkP L js dir (gs l k), ad k, cp k)] else rowK L js dir h l ad cp k
theorem rowK_len (L : Int) (js : List Int) (dir h : Int) (l : List Sgn) (ad : Nat → Option Addr) (cp : Nat → Nat) : ∀ k, (rowK L js dir h l ad cp k).length ≤ k
  | 0 => Nat.le_refl _
  | k + 1 => by
    have := rowK_len L js dir h l ad cp k
    rw [rowK]; split
    · simp; omega
    · omega
theorem rowK_mem (L : Int) (js : List Int) (dir h : Int) (l : List Sgn) (ad : Nat → Option Addr) (cp : Nat → Nat) (x : PE) : ∀ k, x ∈ rowK L js dir h l ad cp k → ∃ j, j < k ∧ x = (mkP L js dir (gs l j), ad j, cp j)
  | 0, hx => by simp [rowK] at hx
  | k + 1, hx => by
    rw [rowK] at hx
    split at hx
    · rw [List.mem_append] at hx
      rcases hx with hx | hx
      · obtain ⟨j, hj, e⟩ := rowK_mem L js dir h l ad cp x k hx
        exact ⟨j, by omega, e⟩
      · exact ⟨k, by omega, by simpa using hx⟩
    · obtain ⟨j, hj, e⟩ := rowK_mem L js dir h l ad cp x k hx
      exact ⟨j, by omega, e⟩
/-- A row comes back: the signs that speak, in order, and what the second loop has made of them. -/
def RowE (L : Int) (js : List Int) (dir h : Int) (l : List Sgn) (w : World) (e : Ending) (w' : World) : Prop :=
  ∃ (ad : Nat → Option Addr) (cp : Nat → Nat) (l1 : List PE) (a : Option Addr) (c : Nat), l1.Perm (rowK L js dir h l ad cp l.length) ∧ (∀ i j, i < j → j < l1.length → ¬ ahdP l1[j]!.1 l1[i]!.1) ∧
    e = .returned (.slice a l1.length c) ∧ PstS w' a ((finP l1 (l1.length - 1)).map (·.1)) ∧ Below w.heap.size w w'
set_option maxRecDepth 100000 in
set_option maxHeartbeats 4000000 in
theorem rowOf_r (L : Int) (a : Option Addr) (js : List Int) (ca : Nat) (aa : Option Addr) (l : List Sgn) (cl : Nat) (h dir : Int) (hL1 : 0 ≤ L) (hL2 : L ≤ 100000) (hJ : ∀ j, j < js.length → 0 ≤ gi js j ∧ gi js j ≤ 100000) (hC : ∀ j, j < l.length → 0 ≤ (gs l j).c ∧ (gs l j).c ≤ 100000 ∧ -1000000 ≤ (gs l j).v ∧ (gs l j).v ≤ 1000000) (hn : l.length ≤ 1000) (w : World) (hI : IntsS w a js) (hA : SgnS w aa l) :
    Calls Tryz.prog 36 #[.agg #[.int .i64 L, .slice a js.length ca], .slice aa l.length cl, .int .i64 h, .int .i64 dir] w (RowE L js dir h l w) := by
  obtain ⟨hlen, blk, off, ad, cp, hadr, hc⟩ := hA
  have HC := Lib.hid hc
  have HI := Lib.hid hI
  have HL : Hid (0 < l.length → aa = some ⟨blk, off, none⟩) := Lib.hid fun h => hadr (pos_ne (n := 0) h)
  have HJ := Lib.hid hJ
  have HCh := Lib.hid hC
  obtain ⟨n0, hi, hz0, hz1, hz2⟩ := info_parts infoP
  clear hc hadr hI hJ hC
  go_enter Tryz.func36, Tryz.ntmps36
  go_wp2_with fail
  obtain ⟨wo, hwo⟩ : ∃ wo, w.alloc (.cells #[.int .i64 L, .slice a js.length ca] 24) = wo := ⟨_, rfl⟩
  have hbo : Below w.heap.size w wo := by rw [← hwo]; exact (Below.refl _ _).alloc (Nat.le_refl _) _
  have p0 : wo.cell? ⟨w.heap.size, 0, none⟩ = some (.int .i64 L) := by rw [← hwo]; simp [go_sem]
  have p1 : wo.cell? ⟨w.heap.size, 1, none⟩ = some (.slice a js.length ca) := by rw [← hwo]; simp [go_sem]
  rw [hwo]
  clear hwo
  have P0 := Lib.hid p0
  have P1 := Lib.hid p1
  clear p0 p1
  go_loopw [9, 18] (fun q i wr => ∃ k : Nat, k ≤ l.length ∧ i = .int .i64 k ∧ (∃ a c, q = .slice a (rowK L js dir h l ad cp k).length c) ∧ Hid (wr.ownsRow wo.heap.size 110 12 q (rowK L js dir h l ad cp k).length (clP (rowK L js dir h l ad cp k))) ∧ Below wo.heap.size wo wr) (fun _ i _ => l.length - (intOf i).toNat)
  case atStart => exact ⟨0, Nat.zero_le _, rfl, ⟨none, 0, rfl⟩, Lib.hid ⟨rfl, .inl ⟨rfl, rfl⟩⟩, Below.refl _ _⟩
  case round =>
    obtain ⟨k, hk, rfl, ⟨av, cv, rfl⟩, HRow, hbr⟩ := hrel
    have hbw := below_onR hbo hbr
    have hRl := rowK_len L js dir h l ad cp k
    by_cases hlt : k < l.length
    · obtain rfl := HL.out (by omega)
      obtain ⟨⟨c0, c1, c2, c3, c4, c5, c6, c7⟩, c8, hpr⟩ := HC.out k hlt
      have c0 := cell_below c0 hbw
      have c1 := cell_below c1 hbw
      have c2 := cell_below c2 hbw
      have c3 := cell_below c3 hbw
      have c4 := cell_below c4 hbw
      have c5 := cell_below c5 hbw
      have c6 := cell_below c6 hbw
      have c7 := cell_below c7 hbw
      have c8 := cell_below c8 hbw
      have hcc := HCh.out k hlt
      have HN : Hid (rowK L js dir h l ad cp (k + 1) = if selB dir h (gs l k) = true then rowK L js dir h l ad cp k ++ [(mkP L js dir (gs l k), ad k, cp k)] else rowK L js dir h l ad cp k) := Lib.hid rfl
      have HSel : Hid (selB dir h (gs l k) = (((gs l k).d == dir) && spkB (gs l k) h)) := Lib.hid rfl
      have HMk : Hid (mkP L js dir (gs l k) = ⟨gs l k, dstK L dir (gs l k).c, opnK L js dir (dstK L dir (gs l k).c) js.length, false⟩) := Lib.hid rfl
      have HSp := Lib.hid (fun W (hW : Below w.heap.size w W) => Speaks_r (gs l k) (ad k) (cp k) h W (hpr.below hW))
      have HDi := Lib.hid (fun W => distance_r L a js.length ca dir (gs l k).c hL1 hL2 (by omega) (by omega) W)
      have HOp := Lib.hid (fun W (hW : Below w.heap.size w W) => openUntil_r L a js ca dir (dstK L dir (gs l k).c) hL1 hL2 HJ.out W (HI.out.below hW))
      clear HC HL HCh HI HJ hpr hcc
      obtain ⟨R, hR⟩ : ∃ R, rowK L js dir h l ad cp k = R := ⟨_, rfl⟩
      rw [hR] at HN HRow hRl ⊢
      clear hR
      obtain ⟨s, hs⟩ : ∃ s, gs l k = s := ⟨_, rfl⟩
      rw [hs] at HN HSel HMk HSp HDi HOp c0 c1 c2 c3 c4 c5 c6 c7 c8
      clear hs
      generalize ad k = adk at *
      generalize cp k = cpk at *
      have hbs := hbr.size
      have HNe : Hid (some wr.heap.size ≠ (Value.slice av R.length cv).ownBlock) := Lib.hid fun e => by
        rcases HRow.out.2 with ⟨h1, _⟩ | ⟨g2, c2, cur, h1, h2, h3, _⟩
        · rw [h1] at e; simp [Value.ownBlock] at e
        · rw [h1] at e; simp [Value.ownBlock] at e
          have := (Array.getElem?_eq_some_iff.1 h3).1
          omega
      have hbB : Below wo.heap.size wo (wr.alloc (.cells #[.int .i64 s.n, .int .i64 s.k, .int .i64 s.v, .int .i64 s.c, .int .i64 s.d, .int .i64 s.rk, .int .i64 s.up, .int .i64 s.dn, .slice adk s.cv.length cpk] 51)) := hbr.alloc hbs _
      have HRow := Lib.hid (HRow.out.alloc (.cells #[.int .i64 s.n, .int .i64 s.k, .int .i64 s.v, .int .i64 s.c, .int .i64 s.d, .int .i64 s.rk, .int .i64 s.up, .int .i64 s.dn, .slice adk s.cv.length cpk] 51))
      have hzB : wr.heap.size < (wr.alloc (.cells #[.int .i64 s.n, .int .i64 s.k, .int .i64 s.v, .int .i64 s.c, .int .i64 s.d, .int .i64 s.rk, .int .i64 s.up, .int .i64 s.dn, .slice adk s.cv.length cpk] 51)).heap.size := by simp
      have s0 : (wr.alloc (.cells #[.int .i64 s.n, .int .i64 s.k, .int .i64 s.v, .int .i64 s.c, .int .i64 s.d, .int .i64 s.rk, .int .i64 s.up, .int .i64 s.dn, .slice adk s.cv.length cpk] 51)).cell? ⟨wr.heap.size, 0, none⟩ = some (.int .i64 s.n) := by simp [go_sem]
      have s1 : (wr.alloc (.cells #[.int .i64 s.n, .int .i64 s.k, .int .i64 s.v, .int .i64 s.c, .int .i64 s.d, .int .i64 s.rk, .int .i64 s.up, .int .i64 s.dn, .slice adk s.cv.length cpk] 51)).cell? ⟨wr.heap.size, 1, none⟩ = some (.int .i64 s.k) := by simp [go_sem]
      have s2 : (wr.alloc (.cells #[.int .i64 s.n, .int .i64 s.k, .int .i64 s.v, .int .i64 s.c, .int .i64 s.d, .int .i64 s.rk, .int .i64 s.up, .int .i64 s.dn, .slice adk s.cv.length cpk] 51)).cell? ⟨wr.heap.size, 2, none⟩ = some (.int .i64 s.v) := by simp [go_sem]
      have s3 : (wr.alloc (.cells #[.int .i64 s.n, .int .i64 s.k, .int .i64 s.v, .int .i64 s.c, .int .i64 s.d, .int .i64 s.rk, .int .i64 s.up, .int .i64 s.dn, .slice adk s.cv.length cpk] 51)).cell? ⟨wr.heap.size, 3, none⟩ = some (.int .i64 s.c) := by simp [go_sem]
      have s4 : (wr.alloc (.cells #[.int .i64 s.n, .int .i64 s.k, .int .i64 s.v, .int .i64 s.c, .int .i64 s.d, .int .i64 s.rk, .int .i64 s.up, .int .i64 s.dn, .slice adk s.cv.length cpk] 51)).cell? ⟨wr.heap.size, 4, none⟩ = some (.int .i64 s.d) := by simp [go_sem]
      have s5 : (wr.alloc (.cells #[.int .i64 s.n, .int .i64 s.k, .int .i64 s.v, .int .i64 s.c, .int .i64 s.d, .int .i64 s.rk, .int .i64 s.up, .int .i64 s.dn, .slice adk s.cv.length cpk] 51)).cell? ⟨wr.heap.size, 5, none⟩ = some (.int .i64 s.rk) := by simp [go_sem]
      have s6 : (wr.alloc (.cells #[.int .i64 s.n, .int .i64 s.k, .int .i64 s.v, .int .i64 s.c, .int .i64 s.d, .int .i64 s.rk, .int .i64 s.up, .int .i64 s.dn, .slice adk s.cv.length cpk] 51)).cell? ⟨wr.heap.size, 6, none⟩ = some (.int .i64 s.up) := by simp [go_sem]
      have s7 : (wr.alloc (.cells #[.int .i64 s.n, .int .i64 s.k, .int .i64 s.v, .int .i64 s.c, .int .i64 s.d, .int .i64 s.rk, .int .i64 s.up, .int .i64 s.dn, .slice adk s.cv.length cpk] 51)).cell? ⟨wr.heap.size, 7, none⟩ = some (.int .i64 s.dn) := by simp [go_sem]
      have s8 : (wr.alloc (.cells #[.int .i64 s.n, .int .i64 s.k, .int .i64 s.v, .int .i64 s.c, .int .i64 s.d, .int .i64 s.rk, .int .i64 s.up, .int .i64 s.dn, .slice adk s.cv.length cpk] 51)).cell? ⟨wr.heap.size, 8, none⟩ = some (.slice adk s.cv.length cpk) := by simp [go_sem]
      have p0 := cell_below P0.out hbB
      have p1 := cell_below P1.out hbB
      obtain ⟨wB, hwB⟩ : ∃ wB, wr.alloc (.cells #[.int .i64 s.n, .int .i64 s.k, .int .i64 s.v, .int .i64 s.c, .int .i64 s.d, .int .i64 s.rk, .int .i64 s.up, .int .i64 s.dn, .slice adk s.cv.length cpk] 51) = wB := ⟨_, rfl⟩
      rw [hwB] at hbB HRow hzB s0 s1 s2 s3 s4 s5 s6 s7 s8 p0 p1
      by_cases hd : s.d = dir
      · have bd : (s.d == dir) = true := by simp [hd]
        clear hd
        have hzl := block_lt p0
        cases hsp : spkB s h with
        | false =>
          rw [hsp] at HSp
          have HNn : Hid (rowK L js dir h l ad cp (k + 1) = R) := Lib.hid (by rw [HN.out, if_neg (by rw [HSel.out, hsp]; simp)])
          clear HN HSel HMk HDi HOp
          go_wp2_with (go_at_call 74; refine (HSp.out _ (below_onR hbo hbB)).mono ?_; rintro e w7 ⟨rfl, hb7⟩)
          go_roundw
          case rel => exact ⟨k + 1, by omega, by go_num, ⟨_, cv, by rw [HNn.out]⟩, Lib.hid (by rw [HNn.out]; exact owns_belowI HRow.out hb7), hbB.trans (hb7.mono hbB.size)⟩
          case measure => simp [intOf]; omega
        | true =>
          rw [hsp] at HSp
          have HNn : Hid (rowK L js dir h l ad cp (k + 1) = R ++ [(mkP L js dir s, adk, cpk)]) := Lib.hid (by rw [HN.out, if_pos (by rw [HSel.out, hsp, bd]; rfl)])
          have HE : Hid (clP (rowK L js dir h l ad cp (k + 1)) = clP R ++ [.int .i64 s.n, .int .i64 s.k, .int .i64 s.v, .int .i64 s.c, .int .i64 s.d, .int .i64 s.rk, .int .i64 s.up, .int .i64 s.dn, .slice adk s.cv.length cpk, .int .i64 (dstK L dir s.c), .int .i64 (opnK L js dir (dstK L dir s.c) js.length), .bool false] ∧ (rowK L js dir h l ad cp (k + 1)).length = R.length + 1) := Lib.hid (by rw [HNn.out, clP_app, HMk.out]; exact ⟨rfl, by simp⟩)
          clear HN HSel HMk HNn
          generalize opnK L js dir (dstK L dir s.c) js.length = U at *
          generalize dstK L dir s.c = D at *
          go_wp2_with (first
            | (go_at_call 74
               refine (HSp.out _ (below_onR hbo hbB)).mono ?_
               rintro e w9 ⟨rfl, hb9⟩
               have hzs := hzB
               have s0 := (hb9.cell (p := ⟨wr.heap.size, 0, none⟩) hzs).trans s0
               have s1 := (hb9.cell (p := ⟨wr.heap.size, 1, none⟩) hzs).trans s1
               have s2 := (hb9.cell (p := ⟨wr.heap.size, 2, none⟩) hzs).trans s2
               have s3 := (hb9.cell (p := ⟨wr.heap.size, 3, none⟩) hzs).trans s3
               have s4 := (hb9.cell (p := ⟨wr.heap.size, 4, none⟩) hzs).trans s4
               have s5 := (hb9.cell (p := ⟨wr.heap.size, 5, none⟩) hzs).trans s5
               have s6 := (hb9.cell (p := ⟨wr.heap.size, 6, none⟩) hzs).trans s6
               have s7 := (hb9.cell (p := ⟨wr.heap.size, 7, none⟩) hzs).trans s7
               have s8 := (hb9.cell (p := ⟨wr.heap.size, 8, none⟩) hzs).trans s8
               have p0 := (hb9.cell (p := ⟨w.heap.size, 0, none⟩) hzl).trans p0
               have p1 := (hb9.cell (p := ⟨w.heap.size, 1, none⟩) hzl).trans p1
               have hbB := hbB.trans (hb9.mono hbB.size)
               have HRow := Lib.hid (owns_belowI HRow.out hb9)
               have hzB := Nat.lt_of_lt_of_le hzB hb9.size
               have hzl := Nat.lt_of_lt_of_le hzl hb9.size)
            | (go_at_call 61
               refine (HDi.out _).mono ?_
               rintro e w9 ⟨rfl, hb9⟩
               have hzs := hzB
               have s0 := (hb9.cell (p := ⟨wr.heap.size, 0, none⟩) hzs).trans s0
               have s1 := (hb9.cell (p := ⟨wr.heap.size, 1, none⟩) hzs).trans s1
               have s2 := (hb9.cell (p := ⟨wr.heap.size, 2, none⟩) hzs).trans s2
               have s3 := (hb9.cell (p := ⟨wr.heap.size, 3, none⟩) hzs).trans s3
               have s4 := (hb9.cell (p := ⟨wr.heap.size, 4, none⟩) hzs).trans s4
               have s5 := (hb9.cell (p := ⟨wr.heap.size, 5, none⟩) hzs).trans s5
               have s6 := (hb9.cell (p := ⟨wr.heap.size, 6, none⟩) hzs).trans s6
               have s7 := (hb9.cell (p := ⟨wr.heap.size, 7, none⟩) hzs).trans s7
               have s8 := (hb9.cell (p := ⟨wr.heap.size, 8, none⟩) hzs).trans s8
               have p0 := (hb9.cell (p := ⟨w.heap.size, 0, none⟩) hzl).trans p0
               have p1 := (hb9.cell (p := ⟨w.heap.size, 1, none⟩) hzl).trans p1
               have hbB := hbB.trans (hb9.mono hbB.size)
               have HRow := Lib.hid (owns_belowI HRow.out hb9)
               have hzB := Nat.lt_of_lt_of_le hzB hb9.size
               have hzl := Nat.lt_of_lt_of_le hzl hb9.size))

          have hzl0 : w.heap.size < wo.heap.size := by have := block_lt P0.out; exact this
          obtain ⟨ws, rfl⟩ : ∃ wz : World, wz = w9 := ⟨_, rfl⟩
          refine wp_region_held_drew (S := fun w' => Below wo.heap.size ws w' ∧ w'.heap[wr.heap.size]? = ws.heap[wr.heap.size]?) (by kernel_rfl) ⟨(Below.refl _ _).drew, rfl⟩ (fun hHeld => ?_)
          refine takeU (i := 0) (some 36) (.slice av R.length cv) (by kernel_rfl) (by kernel_rfl) (by kernel_rfl) (by kernel_rfl) (by kernel_rfl) (fun _ => by kernel_rfl) (fun _ _ _ h => h) hHeld ?_
          refine wpAnyH_take (i := 1) (oi := { dst := some 37, op := Go.Op.load 51 (Go.Operand.tmp 11), type := 51, pos := "row.go:44", after := #[], guard := none }) (v := .agg #[.int .i64 s.n, .int .i64 s.k, .int .i64 s.v, .int .i64 s.c, .int .i64 s.d, .int .i64 s.rk, .int .i64 s.up, .int .i64 s.dn, .slice adk s.cv.length cpk]) rfl (by kernel_rfl) (by kernel_rfl) (by kernel_rfl) (fun _ _ _ h => h) (.inl ⟨by kernel_rfl, fun w9 h9 => by
            clear hHeld
            have d0 := (World.cell?_of_block (w := ws) (w' := w9) (a := ⟨wr.heap.size, 0, none⟩) h9.2).trans s0
            have d1 := (World.cell?_of_block (w := ws) (w' := w9) (a := ⟨wr.heap.size, 1, none⟩) h9.2).trans s1
            have d2 := (World.cell?_of_block (w := ws) (w' := w9) (a := ⟨wr.heap.size, 2, none⟩) h9.2).trans s2
            have d3 := (World.cell?_of_block (w := ws) (w' := w9) (a := ⟨wr.heap.size, 3, none⟩) h9.2).trans s3
            have d4 := (World.cell?_of_block (w := ws) (w' := w9) (a := ⟨wr.heap.size, 4, none⟩) h9.2).trans s4
            have d5 := (World.cell?_of_block (w := ws) (w' := w9) (a := ⟨wr.heap.size, 5, none⟩) h9.2).trans s5
            have d6 := (World.cell?_of_block (w := ws) (w' := w9) (a := ⟨wr.heap.size, 6, none⟩) h9.2).trans s6
            have d7 := (World.cell?_of_block (w := ws) (w' := w9) (a := ⟨wr.heap.size, 7, none⟩) h9.2).trans s7
            have d8 := (World.cell?_of_block (w := ws) (w' := w9) (a := ⟨wr.heap.size, 8, none⟩) h9.2).trans s8
            clear h9
            go_simp⟩) hHeld ?_
          refine takeU (i := 2) (some 38) (.int .i64 D) (by kernel_rfl) (by kernel_rfl) (by kernel_rfl) (by kernel_rfl) (by kernel_rfl) (fun _ => by kernel_rfl) (fun _ _ _ h => h) hHeld ?_
          refine wpAnyH_take (i := 3) (oi := { dst := some 39, op := Go.Op.load 24 (Go.Operand.tmp 4), type := 24, pos := "row.go:44", after := #[], guard := none }) (v := .agg #[.int .i64 L, .slice a js.length ca]) rfl (by kernel_rfl) (by kernel_rfl) (by kernel_rfl) (fun _ _ _ h => h) (.inl ⟨by kernel_rfl, fun w9 h9 => by
            clear hHeld
            have d0 := (h9.1.cell (p := ⟨w.heap.size, 0, none⟩) hzl0).trans p0
            have d1 := (h9.1.cell (p := ⟨w.heap.size, 1, none⟩) hzl0).trans p1
            clear h9
            go_simp⟩) hHeld ?_
          refine takeU (i := 4) (some 40) (.int .i64 dir) (by kernel_rfl) (by kernel_rfl) (by kernel_rfl) (by kernel_rfl) (by kernel_rfl) (fun _ => by kernel_rfl) (fun _ _ _ h => h) hHeld ?_
          refine takeU (i := 5) (some 41) (.int .i64 D) (by kernel_rfl) (by kernel_rfl) (by kernel_rfl) (by kernel_rfl) (by kernel_rfl) (fun _ => by kernel_rfl) (fun _ _ _ h => h) hHeld ?_
          try simp only [Act.put, List.setIfInBounds_toArray, List.set_cons_zero, List.set_cons_succ]
          refine wpAnyH_ready (rs := [6]) (by kernel_rfl) (by simp) ?_
          refine AllReadyH.cons (o := { dst := some 42, op := Go.Op.call { callee := Go.Callee.value (Go.Operand.func 75), args := #[Go.Operand.tmp 39, Go.Operand.tmp 40, Go.Operand.tmp 41], argTypes := #[24, 3, 3] }, type := 3, pos := "row.go:44", after := #[{ on := 3, ground := Go.Ground.data }, { on := 4, ground := Go.Ground.data }, { on := 5, ground := Go.Ground.data }], guard := none }) rfl (fun K hK => ?_) AllReadyH.nil
          go_simp
          go_at_call 75
          refine (HOp.out _ ((below_onR hbo hbB).trans (hHeld.1.mono hbo.size))).mono ?_
          rintro e w8 ⟨rfl, hb8⟩
          have hb8w : Below ws.heap.size ws w8 := ((Below.refl ws.heap.size ws).drew).trans hb8
          have hs8 := hb8w.size
          have hsB := hbB.size
          refine hK.out _ _ ⟨hHeld.1.trans (hb8.mono (by have := hHeld.1.size; omega)), (hb8.block wr.heap.size (by have := hHeld.1.size; omega)).trans hHeld.2⟩ (fun hHeld => ?_)
          clear hK K hb8
          refine takeU (i := 7) (some 43) (.agg #[.int .i64 s.n, .int .i64 s.k, .int .i64 s.v, .int .i64 s.c, .int .i64 s.d, .int .i64 s.rk, .int .i64 s.up, .int .i64 s.dn, .slice adk s.cv.length cpk, .int .i64 D, .int .i64 U, .bool false]) (by kernel_rfl) (by kernel_rfl) (by kernel_rfl) (by kernel_rfl) (by kernel_rfl) (fun _ => by kernel_rfl) (fun _ _ _ h => h) hHeld ?_
          try simp only [Act.put, List.setIfInBounds_toArray, List.set_cons_zero, List.set_cons_succ]
          refine wpAnyH_ready (rs := [8]) (by kernel_rfl) (by simp) ?_
          refine AllReadyH.cons (o := { dst := some 44, op := Go.Op.buildSlice 81 1 #[(0, Go.Operand.tmp 43)], type := 81, pos := "row.go:44", after := #[{ on := 7, ground := Go.Ground.data }], guard := none }) rfl (fun K hK => ?_) AllReadyH.nil
          go_simp
          refine hK.out _ _ ⟨hHeld.1.alloc (by omega) _, (Below.heap_alloc _ _ _ (by omega)).trans hHeld.2⟩ (fun hHeld => ?_)
          clear hK K
          refine wpAnyH_ready (rs := [9]) (by kernel_rfl) (by simp) ?_
          refine AllReadyH.cons (o := { dst := some 45, op := Go.Op.call { callee := Go.Callee.builtin Go.Builtin.append, args := #[Go.Operand.tmp 36, Go.Operand.tmp 44], argTypes := #[81, 81] }, type := 81, pos := "row.go:44", after := #[{ on := 0, ground := Go.Ground.data }, { on := 8, ground := Go.Ground.data }, { on := 6, ground := Go.Ground.chain }], guard := none }) rfl (fun K hK => ?_) AllReadyH.nil
          refine step_append_lies _ (by rfl) _ _ _ (by rfl) wo.heap.size 110 n0 _ 12 112 Tryz.underlying81 hi hz0 hz1 hz2 rfl (by decide) (.slice av R.length cv) R.length _ (by rfl) (owns_belowI HRow.out (hb8w.alloc hs8 _)) ⟨w8.heap.size, 0, none⟩ 1 1 [.int .i64 s.n, .int .i64 s.k, .int .i64 s.v, .int .i64 s.c, .int .i64 s.d, .int .i64 s.rk, .int .i64 s.up, .int .i64 s.dn, .slice adk s.cv.length cpk, .int .i64 D, .int .i64 U, .bool false] (by rfl) (by rfl) (World.news_of_block (w := w8.alloc (.cells #[.int .i64 s.n, .int .i64 s.k, .int .i64 s.v, .int .i64 s.c, .int .i64 s.d, .int .i64 s.rk, .int .i64 s.up, .int .i64 s.dn, .slice adk s.cv.length cpk, .int .i64 D, .int .i64 U, .bool false] 110)) (B := w8.heap.size) (cs := #[.int .i64 s.n, .int .i64 s.k, .int .i64 s.v, .int .i64 s.c, .int .i64 s.d, .int .i64 s.rk, .int .i64 s.up, .int .i64 s.dn, .slice adk s.cv.length cpk, .int .i64 D, .int .i64 U, .bool false]) (t := 110) (fr := (0, 0)) (heap_alloc_new _ _)) (by simp [Value.oneCell']) (by decide) (by unfold maxLen; omega) (by omega) (by simp; omega) _ rfl ?_
          intro g6 c6 w6 hown6 hgrow6 hat6 hlt6
          refine hK.out _ _ ⟨hHeld.1.grown hgrow6 (by simp; omega) (fun z hz => owns_blockI HRow.out hz), (hgrow6.block wr.heap.size (by simp; omega) HNe.out).trans hHeld.2⟩ (fun hHeld => ?_)
          have hb6 : Below wo.heap.size wo w6 := hbB.trans hHeld.1
          have hown6 := Lib.hid hown6
          clear hK K hgrow6 hat6 hlt6
          try simp only [Act.put, List.setIfInBounds_toArray, List.set_cons_zero, List.set_cons_succ]
          refine takeU (i := 10) (some 9) (.slice (some ⟨g6, 0, none⟩) (R.length + 1) c6) (by kernel_rfl) (by kernel_rfl) (by kernel_rfl) (by kernel_rfl) (by kernel_rfl) (fun _ => by kernel_rfl) (fun _ _ _ h => h) hHeld ?_
          refine wpAnyH_done (by kernel_rfl) ?_ _
          try simp only [Act.put, List.setIfInBounds_toArray, List.set_cons_zero, List.set_cons_succ]
          go_wp2_with fail
          go_roundw
          case rel => exact ⟨k + 1, by omega, by go_num, ⟨some ⟨g6, 0, none⟩, c6, by rw [HE.out.2]⟩, Lib.hid (by rw [HE.out.1, HE.out.2]; exact hown6.out), hb6⟩
          case measure => simp [intOf]; omega

      · have bd : (s.d == dir) = false := beq_false_of_ne hd
        have HNn : Hid (rowK L js dir h l ad cp (k + 1) = R) := Lib.hid (by rw [HN.out, if_neg (by rw [HSel.out, bd]; simp)])
        clear HN HSel HMk HDi HOp HSp
        go_wp2_with fail
        go_roundw
        case rel => exact ⟨k + 1, by omega, by go_num, ⟨_, cv, by rw [HNn.out]⟩, Lib.hid (by rw [HNn.out]; exact HRow.out), hbB⟩
        case measure => simp [intOf]; omega
    · obtain rfl : k = l.length := by omega
      have HPr : Hid (∀ j, j < l.length → PairsS w (ad j) (gs l j).cv) := Lib.hid fun j hj => (HC.out j hj).2.2
      have HMem := Lib.hid (rowK_mem L js dir h l ad cp)
      have HMe := Lib.hid (fun x => HMem.out x l.length)
      have HCv := Lib.hid (fun j (hj : j < l.length) => (show (-1000000 ≤ (mkP L js dir (gs l j)).d ∧ (mkP L js dir (gs l j)).d ≤ 1000000) ∧ -1000000 ≤ (mkP L js dir (gs l j)).s.v ∧ (mkP L js dir (gs l j)).s.v ≤ 1000000 from ⟨dst_bound hL1 hL2 (HCh.out j hj).1 (HCh.out j hj).2.1, (HCh.out j hj).2.2⟩))
      have HRE : Hid (∀ (l1 : List PE) (a9 : Option Addr) (c9 : Nat) (e : Ending) (w' : World), l1.Perm (rowK L js dir h l ad cp l.length) → (∀ i j, i < j → j < l1.length → ¬ ahdP l1[j]!.1 l1[i]!.1) → e = .returned (.slice a9 l1.length c9) → PstS w' a9 ((finP l1 (l1.length - 1)).map (·.1)) → Below w.heap.size w w' → RowE L js dir h l w e w') := Lib.hid fun l1 a9 c9 e w' h1 h2 h3 h4 h5 => ⟨ad, cp, l1, a9, c9, h1, h2, h3, h4, h5⟩
      clear HC HL HCh HI HJ HMem
      obtain ⟨R, hR⟩ : ∃ R, rowK L js dir h l ad cp l.length = R := ⟨_, rfl⟩
      rw [hR] at HRow hRl ⊢
      simp only [hR] at HMe HRE
      clear hR
      have hsr := hbr.size
      have HAv : Hid (0 < R.length → ∃ g, av = some ⟨g, 0, none⟩) := Lib.hid fun h0 => by
        obtain ⟨g, c, h1, -, -⟩ := World.ownsRow.form HRow.out h0
        exact ⟨g, by simpa using (Value.slice.inj h1).1⟩
      obtain ⟨ws, rfl⟩ : ∃ wz : World, wz = wr := ⟨_, rfl⟩
      have hq9 : ∀ g, av = some ⟨g, 0, none⟩ → g < ws.heap.size := fun g hg => (World.ownsRow.lt HRow.out g (by rw [hg]; rfl)).2
      have HQ9 := Lib.hid hq9
      clear hq9
      go_wp2_with (first
        | (go_at_call 77
           refine (by0_r ws.heap.size _).mono ?_
           rintro e w5 ⟨B5, rfl, hB5, cB5, hb5⟩
           have f0 : (ws.alloc (.cells #[.func (.func 78) #[] #[], .func (.func 79) #[] #[], .func (.func 80) #[] #[]] 86)).cell? ⟨ws.heap.size, 0, none⟩ = some (.func (.func 78) #[] #[]) := by simp [go_sem]
           have f1 : (ws.alloc (.cells #[.func (.func 78) #[] #[], .func (.func 79) #[] #[], .func (.func 80) #[] #[]] 86)).cell? ⟨ws.heap.size, 1, none⟩ = some (.func (.func 79) #[] #[]) := by simp [go_sem]
           have f2 : (ws.alloc (.cells #[.func (.func 78) #[] #[], .func (.func 79) #[] #[], .func (.func 80) #[] #[]] 86)).cell? ⟨ws.heap.size, 2, none⟩ = some (.func (.func 80) #[] #[]) := by simp [go_sem]
           replace f0 := cell_below f0 hb5
           replace f1 := cell_below f1 hb5
           replace f2 := cell_below f2 hb5
           have hb5s : Below ws.heap.size ws w5 := ((Below.refl _ _).alloc (Nat.le_refl _) _).trans (hb5.mono (by simp))
           have HS5 := Lib.hid (sortRow_r wo.heap.size B5 ws.heap.size cv av R w5 (owns_belowI HRow.out hb5s) (by omega) cB5 f0 f1 f2 (fun g hg => by have := HQ9.out g hg; simp at hB5; omega)))
        | (go_at_call 76
           (with_reducible refine HS5.out.mono ?_)
           rintro e w6 ⟨rfl, l1, hp1, hs1, hc1, hb6⟩
           have HP1 := Lib.hid hp1
           have HS1 := Lib.hid hs1
           have HC1 := Lib.hid hc1
           have hl1 := hp1.length_eq
           clear hp1 hs1 hc1))
      obtain ⟨wt, rfl⟩ : ∃ wz : World, wz = w6 := ⟨_, rfl⟩
      have hn1 : l1.length = R.length := hl1
      have HLen := Lib.hid hl1
      clear hl1 hn1
      have hbt : Below wo.heap.size wo wt := hbr.trans ((hb5s.mono hsr).trans hb6)
      have HPt : Hid (∀ x, x ∈ l1 → (∃ j, j < l.length ∧ x = (mkP L js dir (gs l j), ad j, cp j)) ) := Lib.hid fun x hx => HMe.out x (HP1.out.mem_iff.1 hx)
      clear hb5 hb5s hb6 f0 f1 f2 cB5 HS5 HQ9 hB5 HRow
      rcases Nat.eq_zero_or_pos R.length with hn0 | hn0
      · have hn1 : ¬ ((1 : Int) < (R.length : Int)) := by omega
        have HN0 := Lib.hid hn0
        clear hn0
        refine wp_loop_rounds 1 ?_
        rw [rounds_succ]
        go_wp2_with fail
        go_ret
        have h0 : l1 = [] := List.eq_nil_of_length_eq_zero (by rw [HLen.out, HN0.out])
        exact HRE.out l1 av cv _ _ HP1.out HS1.out (by rw [HLen.out]; rfl) (by rw [h0]; exact ⟨by simp [finP], 0, 0, fun _ => none, fun _ => 0, fun hh => absurd rfl hh, fun i hi => absurd hi (by simp [finP])⟩) (hbo.trans (hbt.mono hbo.size))
      · obtain ⟨g, rfl⟩ := HAv.out hn0
        obtain ⟨hgw, hcel⟩ := HC1.out g rfl
        have HCel : Hid (CelP wt g (clP (finP l1 0))) := Lib.hid hcel
        clear hcel HC1 HAv
        have HFl := Lib.hid (finP_len l1)
        have HFk := Lib.hid (finP_keeps l1)
        have HEl : Hid (∀ j : Nat, j < R.length → (-1000000 ≤ l1[j]!.1.d ∧ l1[j]!.1.d ≤ 1000000) ∧ -1000000 ≤ l1[j]!.1.s.v ∧ l1[j]!.1.s.v ≤ 1000000) := Lib.hid fun j hj => by
          have hj2 : j < l1.length := by rw [HLen.out]; exact hj
          obtain ⟨m, hm, e⟩ := HPt.out l1[j]! (by rw [getElem!_pos _ j hj2]; exact List.getElem_mem hj2)
          rw [e]
          exact HCv.out m hm
        clear HCv
        go_wp2_with fail
        go_loopw [13] (fun i9 wr => ∃ i : Nat, 1 ≤ i ∧ i ≤ R.length ∧ i9 = .int .i64 i ∧ Below wo.heap.size wt wr ∧ Hid (CelP wr g (clP (finP l1 (i - 1))))) (fun i9 _ => R.length - (intOf i9).toNat)
        case atStart => exact ⟨1, Nat.le_refl _, hn0, rfl, Below.refl _ _, HCel⟩
        case round =>
          clear HCel
          obtain ⟨i, hi1, hi2, rfl, hbi, HCi⟩ := hrel
          by_cases hlt : i < R.length
          · obtain ⟨t, ht⟩ : ∃ t, i - 1 = t := ⟨_, rfl⟩
            have ht2 : t + 1 = i := by omega
            rw [ht] at HCi
            have htl : t < R.length := by omega
            have hlF : (finP l1 t).length = R.length := (HFl.out t).trans HLen.out
            have HSt : Hid (finP l1 i = if cndP (finP l1 t)[t]!.1 (finP l1 t)[i]!.1 = true then ((finP l1 t).set i ({ (finP l1 t)[i]!.1 with b := true }, (finP l1 t)[i]!.2)).set t ({ (finP l1 t)[t]!.1 with u := min (finP l1 t)[t]!.1.u ((finP l1 t)[t]!.1.d + (finP l1 t)[i]!.1.s.v) }, (finP l1 t)[t]!.2) else finP l1 t) := Lib.hid (by rw [← ht2]; rfl)
            have kx := HFk.out t t (by rw [HLen.out]; exact htl)
            have ky := HFk.out t i (by rw [HLen.out]; exact htl)
            have ex := HEl.out t htl
            have ey := HEl.out i hlt
            rw [← kx.2.1, ← kx.1] at ex
            rw [← ky.2.1, ← ky.1] at ey
            clear kx ky
            obtain ⟨F, hF⟩ : ∃ F, finP l1 t = F := ⟨_, rfl⟩
            rw [hF] at HSt HCi hlF ex ey
            have HlF := Lib.hid hlF
            obtain ⟨x1, x2, x9, x10, x11, xf10, xf11⟩ := celP_fields HCi.out (j := t) (by omega)
            obtain ⟨y1, y2, y9, y10, y11, yf10, yf11⟩ := celP_fields HCi.out (j := i) (by omega)
            have HCnd : Hid (cndP F[t]!.1 F[i]!.1 = ((topK F[t]!.1.s.k != 0) && ((F[i]!.1.s.k == 7) && (F[i]!.1.d == F[t]!.1.d)))) := Lib.hid rfl
            have HTq : Hid (∀ W, Calls Tryz.prog 81 #[.int .i64 F[t]!.1.s.k] W fun e w' => e = .returned (.int .i64 (topK F[t]!.1.s.k)) ∧ w' = W) := Lib.hid fun W => (topicOf_r F[t]!.1.s.k W).mono fun e w' h => ⟨h.1, h.2.symm⟩
            have HXY : Hid (F[t]!.1.s.k = F[t]!.1.s.k) := Lib.hid rfl
            obtain ⟨⟨xd0, xd1⟩, -⟩ := ex
            obtain ⟨⟨yd0, yd1⟩, yv0, yv1⟩ := ey
            have hwi : IntKind.i64.wrap ((i : Int) - 1) = (t : Int) := by rw [show (i : Int) - 1 = (t : Int) by omega]; exact IntWalk.i64_in _ (by omega)
            have ht0 : (0 : Int) ≤ (t : Int) := by omega
            have ht3 : (t : Int) < (R.length : Int) := by omega
            have hi0 : (0 : Int) ≤ (i : Int) := by omega
            have hi3 : (i : Int) < (R.length : Int) := by omega
            have HT2 := Lib.hid ht2
            have hti : t ≠ i := by omega
            clear hF hlF ht ht2 x2 x11 y10 xf11 yf10 HXY
            generalize hT' : topK F[t]!.1.s.k = T at *
            generalize hxk : F[t]!.1.s.k = xk at *
            generalize hxd : F[t]!.1.d = xd at *
            generalize hxu : F[t]!.1.u = xu at *
            generalize hyk : F[i]!.1.s.k = yk at *
            generalize hyv : F[i]!.1.s.v = yv at *
            generalize hyd : F[i]!.1.d = yd at *
            have HNM := Lib.hid (And.intro hxd (And.intro hxu hyv))
            clear hT' hxk hxd hxu hyk hyv hyd
            by_cases hT : T = 0
            · have hT1 : (T == 0) = true := by simp [hT]
              have hT2 : (T != 0) = false := by simp [hT]
              clear hT
              have HSt2 : Hid (finP l1 i = F) := Lib.hid (by rw [HSt.out, if_neg (by rw [HCnd.out]; rw [hT2]; simp)])
              clear HSt HCnd
              go_wp2_with fail
              go_quiet (fail)
              go_wp2_with fail
              go_quiet ((go_at_call 81; first | exact Calls.quiet_of_same (HTq.out _) | exact (HTq.out _).mono (fun e w' h => ⟨h.1, _, h.2⟩)))
              go_wp2_with fail
              go_roundw
              case rel => exact ⟨i + 1, by omega, by omega, by go_num, (by first | exact hbi | exact below_drewN hbi _ | exact below_drewN (below_drewN hbi _) _), Lib.hid (by rw [Nat.add_sub_cancel, HSt2.out]; exact HCi.out)⟩
              case measure => simp [intOf]; omega
            have hT1 : (T == 0) = false := by simpa using hT
            have hT2 : (T != 0) = true := by simpa using hT
            clear hT
            by_cases hK : yk = 7
            rotate_left
            · have hK1 : (yk == 7) = false := by simpa using hK
              clear hK
              have HSt2 : Hid (finP l1 i = F) := Lib.hid (by rw [HSt.out, if_neg (by rw [HCnd.out]; rw [hK1]; simp)])
              clear HSt HCnd
              go_wp2_with fail
              go_quiet (fail)
              go_wp2_with fail
              go_quiet ((go_at_call 81; first | exact Calls.quiet_of_same (HTq.out _) | exact (HTq.out _).mono (fun e w' h => ⟨h.1, _, h.2⟩)))
              go_wp2_with fail
              go_roundw
              case rel => exact ⟨i + 1, by omega, by omega, by go_num, (by first | exact hbi | exact below_drewN hbi _ | exact below_drewN (below_drewN hbi _) _), Lib.hid (by rw [Nat.add_sub_cancel, HSt2.out]; exact HCi.out)⟩
              case measure => simp [intOf]; omega
            have hK1 : (yk == 7) = true := by simpa using hK
            clear hK
            by_cases hD : yd = xd
            rotate_left
            · have hD1 : (yd == xd) = false := by simpa using hD
              clear hD
              have HSt2 : Hid (finP l1 i = F) := Lib.hid (by rw [HSt.out, if_neg (by rw [HCnd.out]; rw [hD1]; simp)])
              clear HSt HCnd
              go_wp2_with fail
              go_quiet (fail)
              go_wp2_with fail
              go_quiet ((go_at_call 81; first | exact Calls.quiet_of_same (HTq.out _) | exact (HTq.out _).mono (fun e w' h => ⟨h.1, _, h.2⟩)))
              go_wp2_with fail
              go_roundw
              case rel => exact ⟨i + 1, by omega, by omega, by go_num, (by first | exact hbi | exact below_drewN hbi _ | exact below_drewN (below_drewN hbi _) _), Lib.hid (by rw [Nat.add_sub_cancel, HSt2.out]; exact HCi.out)⟩
              case measure => simp [intOf]; omega
            have hD1 : (yd == xd) = true := by simpa using hD
            clear hD
            have HSt2 := Lib.hid (HSt.out.trans (if_pos (by rw [HCnd.out, hT2, hK1, hD1]; rfl)))
            clear HSt HCnd
            go_wp2_with fail
            go_quiet (fail)
            go_upto_region 14 with (fail)
            go_cut [89] (fun v wx => v = .bool true ∧ Below wo.heap.size wt wx ∧ Hid (CelP wx g (clP F)))
            case first =>
              go_quiet ((go_at_call 81; first | exact Calls.quiet_of_same (HTq.out _) | exact (HTq.out _).mono (fun e w' h => ⟨h.1, _, h.2⟩)))
              go_wp2_with fail
              go_meet
              exact ⟨rfl, (by first | exact below_drewN hbi _ | exact below_drewN (below_drewN hbi _) _), Lib.hid HCi.out⟩
            case rest =>
              obtain ⟨rfl, hbx, HCx⟩ := hcut
              obtain ⟨wq, rfl⟩ : ∃ wz : World, wz = wc := ⟨_, rfl⟩
              clear x1 x9 x10 xf10 y1 y2 y9 y11 yf11 HTq hbi HCi hT1 hT2 hK1 hD1
              obtain ⟨-, -, -, -, y11, -, yf11⟩ := celP_fields HCx.out (j := i) (by rw [HlF.out]; exact hlt)
              go_upto_region 16 with (fail)
              obtain ⟨wS, hwS⟩ : ∃ wS, wq.setCell ⟨g, i * 12 + 11, none⟩ (.bool true) = wS := ⟨_, rfl⟩
              have HCS : Hid (CelP wS g (clP (F.set i ({ F[i]!.1 with b := true }, F[i]!.2)))) := Lib.hid (by
                rw [← hwS, ← clP_setb F i true (by rw [HlF.out]; exact hlt)]
                exact HCx.out.set (by rw [clP_len, HlF.out]; omega))
              have hbS : Below wo.heap.size wt wS := by rw [← hwS]; exact hbx.setCell (p := ⟨g, i * 12 + 11, none⟩) hgw _
              rw [hwS]
              clear hwS hbx HCx y11 yf11
              obtain ⟨-, -, x9, x10, -, xf10, -⟩ := celP_fields HCS.out (j := t) (by rw [List.length_set, HlF.out]; exact htl)
              obtain ⟨-, y2, -, -, -, -, -⟩ := celP_fields HCS.out (j := i) (by rw [List.length_set, HlF.out]; exact hlt)
              rw [set_other F _ (fun e => hti e.symm), HNM.out.1] at x9
              rw [set_other F _ (fun e => hti e.symm), HNM.out.2.1] at x10
              rw [set_same F _ (by rw [HlF.out]; exact hlt)] at y2
              simp only [HNM.out.2.2] at y2
              have HFin : Hid (∀ v, v = min xu (xd + yv) → ∀ wz, CelP wz g (clP (F.set i ({ F[i]!.1 with b := true }, F[i]!.2))) → CelP (wz.setCell ⟨g, t * 12 + 10, none⟩ (.int .i64 v)) g (clP (finP l1 i))) := Lib.hid fun v hv wz hz => by
                have h9 := hz.set (j := t * 12 + 10) (v := .int .i64 v) (by rw [clP_len, List.length_set, HlF.out]; omega)
                rw [clP_setu _ t v (by rw [List.length_set, HlF.out]; exact htl), set_other F _ (fun e => hti e.symm)] at h9
                rw [HSt2.out, ← hv]
                exact h9
              have hws : IntKind.i64.wrap (xd + yv) = xd + yv := IntWalk.i64_in _ (by omega)
              clear HSt2 HNM
              have hzs : g < wS.heap.size := block_lt x9
              have HFm := Lib.hid (HFin.out _ rfl)
              clear HFin
              go_still_tail 18, (by kernel_rfl)
              change wpList _ _ _ _ _ wS.drew
              have x10d : wS.drew.cell? ⟨g, t * 12 + 10, none⟩ = some (.int .i64 xu) := x10
              have xf10d : wS.drew.frozen? ⟨g, t * 12 + 10, none⟩ = false := xf10
              have hbd : Below wo.heap.size wt wS.drew := hbS.drew
              have HCd : Hid (CelP wS.drew g (clP (F.set i ({ F[i]!.1 with b := true }, F[i]!.2)))) := HCS
              clear x9 x10 xf10 y2 hbS HCS hzs
              generalize wS.drew = wd at *
              go_wp2_with fail
              go_roundw
              case rel => exact ⟨i + 1, by omega, by omega, by go_num, hbd.setCell (p := ⟨g, t * 12 + 10, none⟩) hgw _, Lib.hid (by rw [Nat.add_sub_cancel]; exact HFm.out _ HCd.out)⟩
              case measure => simp [intOf]; omega
          · obtain rfl : i = R.length := by omega
            have hbw := hbo.trans ((hbt.trans hbi).mono hbo.size)
            have HBW := Lib.hid hbw
            have HWs : Hid (Below wo.heap.size wo wr) := Lib.hid (hbt.trans hbi)
            clear hbw hbi
            go_wp2_with fail
            go_ret
            have hll : l1.length = R.length := HLen.out
            refine HRE.out l1 (some ⟨g, 0, none⟩) cv _ _ HP1.out HS1.out (by rw [HLen.out]; rfl) (pst_of (by rw [hll]; exact HCi.out) (by rw [HFl.out, hll]; omega) (fun m hm => ?_)) HBW.out
            rw [HFl.out] at hm
            obtain ⟨k1, k2, k3⟩ := HFk.out (l1.length - 1) m (by omega)
            rw [k1, k3]
            obtain ⟨j, hj, e⟩ := HPt.out l1[m]! (by rw [getElem!_pos _ m hm]; exact List.getElem_mem hm)
            rw [e]
            exact (HPr.out j hj).below HBW.out
end Go.Proofs.YtneafbhiencjlaaGreatDoor

namespace Go.Proofs.YtneafbhiencjlaaGreatDoor
set_option linter.unusedVariables false
set_option linter.unusedSimpArgs false
open Go.RowKit

/-- A row that rowOf may return. -/
def RowL (L : Int) (js : List Int) (dir h : Int) (l : List Sgn) (row : List Pst) : Prop :=
  ∃ (ad : Nat → Option Addr) (cp : Nat → Nat) (l1 : List PE), l1.Perm (rowK L js dir h l ad cp l.length) ∧ (∀ i j, i < j → j < l1.length → ¬ ahdP l1[j]!.1 l1[i]!.1) ∧ row = (finP l1 (l1.length - 1)).map (·.1)
def RowF (L : Int) (js : List Int) (dir h : Int) (l : List Sgn) (w : World) (e : Ending) (w' : World) : Prop :=
  ∃ (row : List Pst) (a : Option Addr) (c : Nat), RowL L js dir h l row ∧ row.length ≤ l.length ∧ (∀ p, p ∈ row → (-100000 ≤ p.d ∧ p.d ≤ 100000) ∧ -100000 ≤ p.u ∧ p.u ≤ 100000) ∧ e = .returned (.slice a row.length c) ∧ PstS w' a row ∧ Below w.heap.size w w'
theorem dst_bd {L dir c : Int} (h1 : 0 ≤ L) (h2 : L ≤ 100000) (h3 : 0 ≤ c) (h4 : c ≤ 100000) : -100000 ≤ dstK L dir c ∧ dstK L dir c ≤ 100000 := by unfold dstK; split <;> omega
theorem opn_bd {L : Int} {js : List Int} {dir d : Int} (h1 : 0 ≤ L) (h2 : L ≤ 100000) (hJ : ∀ j, j < js.length → 0 ≤ gi js j ∧ gi js j ≤ 100000) : ∀ k, k ≤ js.length → -100000 ≤ opnK L js dir d k ∧ opnK L js dir d k ≤ 100000
  | 0, _ => by unfold opnK; omega
  | k + 1, hk => by
    have ih := opn_bd (dir := dir) (d := d) h1 h2 hJ k (by omega)
    have hj := hJ k (by omega)
    have := dst_bd (dir := dir) h1 h2 hj.1 hj.2
    rw [opnK]; split <;> omega
theorem finP_u (s : List PE) (h : ∀ j : Nat, j < s.length → (-100000 ≤ s[j]!.1.d ∧ s[j]!.1.d ≤ 100000) ∧ (0 ≤ s[j]!.1.s.v ∧ s[j]!.1.s.v ≤ 100000) ∧ -100000 ≤ s[j]!.1.u ∧ s[j]!.1.u ≤ 100000) : ∀ (t i : Nat), t < s.length → i < s.length → -100000 ≤ (finP s t)[i]!.1.u ∧ (finP s t)[i]!.1.u ≤ 100000
  | 0, i, _, hi => (h i hi).2.2
  | t + 1, i, ht, hi => by
    have ih := finP_u s h t
    have hl := finP_len s t
    rw [finP]
    split
    · by_cases e : t = i
      · subst e
        rw [set_same _ _ (by simp; omega)]
        have a := ih t (by omega) hi
        have k1 := finP_keeps s t t (by omega)
        have k2 := finP_keeps s t (t + 1) (by omega)
        have b1 := (h t hi).1
        have b2 := (h (t + 1) ht).2.1
        rw [← k1.2.1] at b1
        rw [← k2.1] at b2
        show _ ≤ min _ _ ∧ min _ _ ≤ _
        omega
      · rw [set_other _ _ e]
        by_cases e2 : t + 1 = i
        · subst e2
          rw [set_same _ _ (by omega)]
          exact ih (t + 1) (by omega) hi
        · rw [set_other _ _ e2]; exact ih i (by omega) hi
    · exact ih i (by omega) hi
theorem rowF_of {L : Int} {js : List Int} {dir h : Int} {l : List Sgn} {w : World} {e : Ending} {w' : World} (hL1 : 0 ≤ L) (hL2 : L ≤ 100000) (hJ : ∀ j, j < js.length → 0 ≤ gi js j ∧ gi js j ≤ 100000) (hC : ∀ j, j < l.length → (0 ≤ (gs l j).c ∧ (gs l j).c ≤ 100000) ∧ 0 ≤ (gs l j).v ∧ (gs l j).v ≤ 100000) (H : RowE L js dir h l w e w') : RowF L js dir h l w e w' := by
  obtain ⟨ad, cp, l1, a, c, h1, h2, h3, h4, h5⟩ := H
  have hl : (finP l1 (l1.length - 1)).length = l1.length := finP_len _ _
  have hr := rowK_len L js dir h l ad cp l.length
  have hp := h1.length_eq
  refine ⟨(finP l1 (l1.length - 1)).map (·.1), a, c, ⟨ad, cp, l1, h1, h2, rfl⟩, by simp [hl]; omega, fun p hp2 => ?_, by simp [hl]; exact h3, h4, h5⟩
  obtain ⟨x, hx, rfl⟩ := List.mem_map.1 hp2
  obtain ⟨i, hi, rfl⟩ := List.getElem_of_mem hx
  rw [hl] at hi
  have hk := finP_keeps l1 (l1.length - 1) i (by omega)
  have e1 : (finP l1 (l1.length - 1))[i] = (finP l1 (l1.length - 1))[i]! := (getElem!_pos _ i (by rw [hl]; exact hi)).symm
  have hEl : ∀ j : Nat, j < l1.length → (-100000 ≤ l1[j]!.1.d ∧ l1[j]!.1.d ≤ 100000) ∧ (0 ≤ l1[j]!.1.s.v ∧ l1[j]!.1.s.v ≤ 100000) ∧ -100000 ≤ l1[j]!.1.u ∧ l1[j]!.1.u ≤ 100000 := fun j hj => by
    obtain ⟨m, hm, e2⟩ := rowK_mem L js dir h l ad cp l1[j]! l.length (h1.mem_iff.1 (by rw [getElem!_pos _ j hj]; exact List.getElem_mem hj))
    rw [e2]
    exact ⟨dst_bd hL1 hL2 (hC m hm).1.1 (hC m hm).1.2, (hC m hm).2, opn_bd hL1 hL2 hJ _ (Nat.le_refl _)⟩
  rw [e1]
  refine ⟨?_, finP_u l1 hEl _ i (by omega) hi⟩
  rw [hk.2.1]
  have := (hEl i hi).1
  omega
set_option maxRecDepth 100000 in
set_option maxHeartbeats 1000000 in
theorem told1_r (L : Int) (a : Option Addr) (js : List Int) (ca : Nat) (dir tp m : Int) (row : List Pst) (ar : Option Addr) (cr rb wb lb : Nat) (hL1 : 0 ≤ L) (hL2 : L ≤ 100000) (hm1 : -1000000 ≤ m) (hm2 : m ≤ 1000000) (w : World) (hR : PstS w ar row)
    (c0 : w.cell? ⟨rb, 0, none⟩ = some (.slice ar row.length cr)) (c1 : w.cell? ⟨wb, 0, none⟩ = some (.int .i64 tp)) (c2 : w.cell? ⟨wb, 1, none⟩ = some (.int .i64 dir)) (c3 : w.cell? ⟨lb, 0, none⟩ = some (.int .i64 L)) (c4 : w.cell? ⟨lb, 1, none⟩ = some (.slice a js.length ca)) :
    Calls Tryz.prog 65 (#[.int .i64 m] ++ #[.pointer (some ⟨rb, 0, none⟩), .pointer (some ⟨wb, 0, none⟩), .pointer (some ⟨lb, 0, none⟩)]) w fun e w' => e = .returned (.int .i64 (hldL tp (begK L dir m) row 0)) ∧ Below w.heap.size w w' := by
  change Calls Tryz.prog 65 #[.int .i64 m, .pointer (some ⟨rb, 0, none⟩), .pointer (some ⟨wb, 0, none⟩), .pointer (some ⟨lb, 0, none⟩)] w _
  have HB := Lib.hid (fun W => beginOf_r L a js.length ca dir m hL1 hL2 hm1 hm2 W)
  have HH := Lib.hid (fun W (hW : Below w.heap.size w W) k => holdsAt_r ar row cr tp k W (hR.below hW))
  clear hR
  go_enter Tryz.func65, Tryz.ntmps65
  go_wp2_with fail
  have hB := Below.refl w.heap.size w
  have z0 := block_lt c0
  have z1 := block_lt c1
  have z3 := block_lt c3
  have C0 := Lib.hid c0
  have C1 := Lib.hid c1
  have C2 := Lib.hid c2
  have C3 := Lib.hid c3
  have C4 := Lib.hid c4
  go_region_held3 (fun w' => w'.cell? ⟨rb, 0, none⟩ = some (.slice ar row.length cr) ∧ w'.cell? ⟨wb, 0, none⟩ = some (.int .i64 tp) ∧ w'.cell? ⟨wb, 1, none⟩ = some (.int .i64 dir) ∧ w'.cell? ⟨lb, 0, none⟩ = some (.int .i64 L) ∧ w'.cell? ⟨lb, 1, none⟩ = some (.slice a js.length ca)) (go_keep)
    (first
      | (go_at_call 67
         refine (HB.out _).mono ?_
         rintro e w9 ⟨rfl, hb9⟩
         replace hB : Below w.heap.size w w9 := (show Below w.heap.size w _ by first | exact hB.drew | exact hB).trans (hb9.mono hB.size)
         have c0 := (hB.cell (p := ⟨rb, 0, none⟩) z0).trans C0.out
         have c1 := (hB.cell (p := ⟨wb, 0, none⟩) z1).trans C1.out
         have c2 := (hB.cell (p := ⟨wb, 1, none⟩) z1).trans C2.out
         have c3 := (hB.cell (p := ⟨lb, 0, none⟩) z3).trans C3.out
         have c4 := (hB.cell (p := ⟨lb, 1, none⟩) z3).trans C4.out)
      | (go_at_call 66
         refine (HH.out _ (by first | exact hB.drew | exact hB) _).mono ?_
         rintro e w9 ⟨rfl, hb9⟩
         replace hB : Below w.heap.size w w9 := (show Below w.heap.size w _ by first | exact hB.drew | exact hB).trans (hb9.mono hB.size)
         have c0 := (hB.cell (p := ⟨rb, 0, none⟩) z0).trans C0.out
         have c1 := (hB.cell (p := ⟨wb, 0, none⟩) z1).trans C1.out
         have c2 := (hB.cell (p := ⟨wb, 1, none⟩) z1).trans C2.out
         have c3 := (hB.cell (p := ⟨lb, 0, none⟩) z3).trans C3.out
         have c4 := (hB.cell (p := ⟨lb, 1, none⟩) z3).trans C4.out))
  all_goals
    go_wp2_with fail
    go_ret
    exact ⟨rfl, by first | exact hB | exact hB.drew⟩
/-- The cuts of a course. -/
def cutsK (L dir : Int) (row : List Pst) : Nat → List Int
  | 0 => [0, L]
  | k + 1 => cutsK L dir row k ++ [dstK L dir (gq row k).d, dstK L dir (gq row k).u]
theorem cutsK_len (L dir : Int) (row : List Pst) : ∀ k, (cutsK L dir row k).length = 2 + 2 * k
  | 0 => rfl
  | k + 1 => by rw [cutsK, List.length_append, cutsK_len L dir row k]; simp; omega
theorem cutsK_bd {L dir : Int} {row : List Pst} (h1 : 0 ≤ L) (h2 : L ≤ 100000) (h : ∀ p, p ∈ row → (-100000 ≤ p.d ∧ p.d ≤ 100000) ∧ -100000 ≤ p.u ∧ p.u ≤ 100000) : ∀ k, k ≤ row.length → ∀ m, m ∈ cutsK L dir row k → -1000000 ≤ m ∧ m ≤ 1000000
  | 0, _, m, hm => by
    simp [cutsK] at hm
    omega
  | k + 1, hk, m, hm => by
    rw [cutsK, List.mem_append] at hm
    rcases hm with hm | hm
    · exact cutsK_bd h1 h2 h k (by omega) m hm
    · have hp := h (gq row k) (by unfold gq; rw [List.getD_eq_getElem?_getD, List.getElem?_eq_getElem (show k < row.length by omega)]; exact List.getElem_mem _)
      have hd : ∀ c, -100000 ≤ c → c ≤ 100000 → -1000000 ≤ dstK L dir c ∧ dstK L dir c ≤ 1000000 := fun c a b => by unfold dstK; split <;> omega
      simp at hm
      rcases hm with rfl | rfl
      · exact hd _ hp.1.1 hp.1.2
      · exact hd _ hp.2.1 hp.2.2
theorem cell_neF {w : World} {B b o : Nat} {k : IntKind} {n : Int} {T : TypeId} {fr : Nat × Nat} (h : w.heap[B]? = some (.cells #[.nilFunc, .slice none 0 0] T fr)) (hc : w.cell? ⟨b, o, none⟩ = some (.int k n)) : b ≠ B := by
  rintro rfl
  rw [World.cell?, h] at hc
  rcases o with _ | _ | o <;> simp at hc
theorem pairs_far {w w' : World} {a : Option Addr} {l : List (Int × Int)} (h : PairsS w a l) (hf : ∀ b o k n, w.cell? ⟨b, o, none⟩ = some (.int k n) → w'.heap[b]? = w.heap[b]?) : PairsS w' a l := by
  obtain ⟨h0, h1, blk, off, h2, h3⟩ := h
  refine ⟨h0, h1, blk, off, h2, fun i hi => ?_⟩
  obtain ⟨c0, c1⟩ := h3 i hi
  have hb := hf _ _ _ _ c0
  exact ⟨(World.cell?_of_block (w := w) (w' := w') (a := ⟨blk, off + i * 2, none⟩) hb).trans c0, (World.cell?_of_block (w := w) (w' := w') (a := ⟨blk, off + i * 2 + 1, none⟩) hb).trans c1⟩
theorem pst_far {w w' : World} {a : Option Addr} {l : List Pst} (h : PstS w a l) (hf : ∀ b o k n, w.cell? ⟨b, o, none⟩ = some (.int k n) → w'.heap[b]? = w.heap[b]?) : PstS w' a l := by
  obtain ⟨h0, blk, off, ad, cp, h2, h3⟩ := h
  refine ⟨h0, blk, off, ad, cp, h2, fun i hi => ?_⟩
  obtain ⟨⟨⟨c0, c1, c2, c3, c4, c5, c6, c7⟩, c8, c9, c10, c11⟩, hp⟩ := h3 i hi
  have hb := hf _ _ _ _ c0
  have t : ∀ o v, w.cell? ⟨blk, o, none⟩ = some v → w'.cell? ⟨blk, o, none⟩ = some v := fun o v hc => (World.cell?_of_block (w := w) (w' := w') (a := ⟨blk, o, none⟩) hb).trans hc
  exact ⟨⟨⟨t _ _ c0, t _ _ c1, t _ _ c2, t _ _ c3, t _ _ c4, t _ _ c5, t _ _ c6, t _ _ c7⟩, t _ _ c8, t _ _ c9, t _ _ c10, t _ _ c11⟩, pairs_far hp hf⟩
theorem cutsK_pair (L dir : Int) (row : List Pst) (k : Nat) : clI (cutsK L dir row (k + 1)) = clI (cutsK L dir row k) ++ [.int .i64 (dstK L dir (gq row k).d), .int .i64 (dstK L dir (gq row k).u)] := by rw [cutsK]; simp [clI]
/-- A course comes back. -/
def ToldE (L : Int) (a : Option Addr) (js : List Int) (ca : Nat) (dir tp h : Int) (l : List Sgn) (w : World) (e : Ending) (w' : World) : Prop :=
  ∃ (row : List Pst) (ar : Option Addr) (cr rb wb lb : Nat) (aq : Option Addr) (cq : Nat), RowL L js dir h l row ∧ row.length ≤ l.length ∧ PstS w' ar row ∧ w'.cell? ⟨rb, 0, none⟩ = some (.slice ar row.length cr) ∧ w'.cell? ⟨wb, 0, none⟩ = some (.int .i64 tp) ∧ w'.cell? ⟨wb, 1, none⟩ = some (.int .i64 dir) ∧ w'.cell? ⟨lb, 0, none⟩ = some (.int .i64 L) ∧ w'.cell? ⟨lb, 1, none⟩ = some (.slice a js.length ca) ∧
    e = .returned (.agg #[.func (.func 65) #[] #[.pointer (some ⟨rb, 0, none⟩), .pointer (some ⟨wb, 0, none⟩), .pointer (some ⟨lb, 0, none⟩)], .slice aq (cutsK L dir row row.length).length cq]) ∧ IntsS w' aq (cutsK L dir row row.length) ∧ (∀ m, m ∈ cutsK L dir row row.length → -1000000 ≤ m ∧ m ≤ 1000000) ∧ Below w.heap.size w w'
end Go.Proofs.YtneafbhiencjlaaGreatDoor

namespace Go.Proofs.YtneafbhiencjlaaGreatDoor
set_option linter.unusedVariables false
set_option linter.unusedSimpArgs false
open Go.RowKit

theorem gi_at (l : List Int) {i : Nat} (h : i < l.length) : gi l i = l[i] := by unfold gi; simp [h]
theorem num_iff (ns : List Int) : numB ns = true ↔ (∀ x, x ∈ ns → 1 ≤ x ∧ x ≤ 1000000000) ∧ ns.Nodup := by
  have hp := srt_perm ns
  have hs : (srt ns).Pairwise (fun a b : Int => a ≤ b) := by
    have h := List.pairwise_mergeSort (le := fun a b : Int => decide (a ≤ b)) (by intro a b c h1 h2; simp at *; omega) (by intro a b; simp; omega) ns
    exact h.imp (fun h => by simpa using h)
  unfold numB
  generalize srt ns = S at *
  have hle : ∀ i j, i < j → j < S.length → gi S i ≤ gi S j := fun i j h1 h2 => by
    rw [gi_at S (by omega), gi_at S h2]
    exact List.pairwise_iff_getElem.1 hs i j (by omega) h2 h1
  constructor
  · intro h
    unfold ascB at h
    simp only [Bool.not_eq_true'] at h
    have hk : ∀ k, k < S.length → prvR S k < gi S k ∧ gi S k ≤ 1000000000 := fun k hk => by
      have h2 := (anyK_iff _).1 h k hk
      simp only [Bool.not_eq_false', nOk, Bool.and_eq_true, decide_eq_true_eq] at h2
      exact h2
    have hlt : ∀ j i, i < j → j < S.length → gi S i < gi S j := by
      intro j
      induction j with
      | zero => intro i h1; omega
      | succ j ih =>
        intro i h1 h2
        have h3 := (hk (j + 1) h2).1
        have h3 : gi S j < gi S (j + 1) := h3
        by_cases e : i = j
        · rw [e]; exact h3
        · have := ih i (by omega) (by omega); omega
    have h0 : ∀ k, k < S.length → 0 < gi S k := fun k hkl => by
      have h1 : 0 < gi S 0 := (hk 0 (by omega)).1
      by_cases e : k = 0
      · rw [e]; exact h1
      · have := hlt k 0 (by omega) hkl; omega
    refine ⟨fun x hx => ?_, ?_⟩
    · obtain ⟨k, hkl, e⟩ := List.getElem_of_mem (hp.mem_iff.2 hx)
      have h1 := h0 k hkl
      have h2 := (hk k hkl).2
      rw [gi_at S hkl, e] at h1 h2
      omega
    · refine hp.nodup_iff.1 (List.pairwise_iff_getElem.2 fun i j hi hj hij => ?_)
      have := hlt j i hij hj
      rw [gi_at S hi, gi_at S hj] at this
      omega
  · rintro ⟨h1, h2⟩
    have h2 := hp.nodup_iff.2 h2
    have hm : ∀ k, k < S.length → 1 ≤ gi S k ∧ gi S k ≤ 1000000000 := fun k hk => by
      rw [gi_at S hk]
      exact h1 _ (hp.mem_iff.1 (List.getElem_mem hk))
    refine asc_end fun k hk => ?_
    simp only [nOk, Bool.and_eq_true, decide_eq_true_eq]
    refine ⟨?_, (hm k hk).2⟩
    rcases k with _ | k
    · have := hm 0 hk; show (0 : Int) < _; omega
    · show gi S k < gi S (k + 1)
      have h3 := hle k (k + 1) (by omega) hk
      have h4 := List.pairwise_iff_getElem.1 h2 k (k + 1) (by omega) hk (by omega)
      rw [← gi_at S (by omega), ← gi_at S hk] at h4
      omega
/-- Is number k right, and is it none of those ahead of it? -/
def rNum (ns : List Int) (k : Nat) : Bool := btw (gi ns k) 1 1000000000 && !(anyK (fun j => gi ns j == gi ns k) k)
theorem num_end {ns : List Int} (h : ∀ k, k < ns.length → rNum ns k = true) : numB ns = true := by
  have h3 : ∀ k, k < ns.length → (1 ≤ gi ns k ∧ gi ns k ≤ 1000000000) ∧ ∀ j, j < k → gi ns j ≠ gi ns k := fun k hk => by
    have h2 := h k hk
    simp only [rNum, Bool.and_eq_true, Bool.not_eq_true'] at h2
    exact ⟨(btw_iff _ _ _).1 h2.1, fun j hj e => by have := (anyK_iff _).1 h2.2 j hj; simp [e] at this⟩
  refine (num_iff ns).2 ⟨fun x hx => ?_, List.pairwise_iff_getElem.2 fun i j hi hj hij => ?_⟩
  · obtain ⟨k, hk, e⟩ := List.getElem_of_mem hx
    have := (h3 k hk).1
    rw [gi_at ns hk, e] at this
    exact this
  · have := (h3 j hj).2 i hij
    rw [gi_at ns hi, gi_at ns hj] at this
    exact this
theorem num_bad1 {ns : List Int} {k : Nat} (hk : k < ns.length) (h : btw (gi ns k) 1 1000000000 = false) : numB ns = false := by
  cases e : numB ns with
  | false => rfl
  | true =>
    have := ((num_iff ns).1 e).1 _ (List.getElem_mem hk)
    rw [← gi_at ns hk, ← btw_iff, h] at this
    cases this
theorem num_bad2 {ns : List Int} {j k : Nat} (hk : k < ns.length) (hj : j < k) (h : gi ns j = gi ns k) : numB ns = false := by
  cases e : numB ns with
  | false => rfl
  | true =>
    have := List.pairwise_iff_getElem.1 ((num_iff ns).1 e).2 j k (by omega) hk hj
    rw [← gi_at ns (by omega), ← gi_at ns hk] at this
    exact absurd h this
theorem s_num (l : List Sgn) {k : Nat} (h : k < l.length) : gi (nosK l l.length) k = (gs l k).n := by
  unfold nosK gi gs; simp [h]
theorem s_bad0 {Ln : Int} {js : List Int} {l : List Sgn} (h : lineB Ln js = false) : sgnsB Ln js l = false := by unfold sgnsB; rw [h]; rfl
theorem s_bad9 {Ln : Int} {js : List Int} {l : List Sgn} (h : 100 < l.length) : sgnsB Ln js l = false := by unfold sgnsB; rw [decide_eq_false (by omega), Bool.and_false]; rfl
theorem s_bad1 {Ln : Int} {js : List Int} {l : List Sgn} {k : Nat} (hk : k < l.length) (h : btw (gs l k).n 1 1000000000 = false) : sgnsB Ln js l = false := by
  unfold sgnsB; rw [num_bad1 (k := k) (by rw [nosK_len l (Nat.le_refl _)]; exact hk) (by rw [s_num l hk]; exact h), Bool.and_false]
theorem s_bad2 {Ln : Int} {js : List Int} {l : List Sgn} {k : Nat} (hk : k < l.length) (h : sgnB Ln (gs l k) = false) : sgnsB Ln js l = false := by
  unfold sgnsB allB; rw [anyK_true (j := k) (by simp [h]) _ hk]; simp
theorem s_bad3 {Ln : Int} {js : List Int} {l : List Sgn} {j k : Nat} (hk : k < l.length) (hj : j < k) (h : (gs l j).n = (gs l k).n) : sgnsB Ln js l = false := by
  unfold sgnsB; rw [num_bad2 (k := k) (j := j) (by rw [nosK_len l (Nat.le_refl _)]; exact hk) hj (by rw [s_num l hk, s_num l (by omega)]; exact h), Bool.and_false]
/-- One of them is right, and its number is none of those ahead. -/
def sRt (Ln : Int) (l : List Sgn) (k : Nat) : Prop := btw (gs l k).n 1 1000000000 = true ∧ sgnB Ln (gs l k) = true ∧ ∀ j, j < k → (gs l j).n ≠ (gs l k).n
theorem s_end {Ln : Int} {js : List Int} {l : List Sgn} (h0 : lineB Ln js = true) (h9 : l.length ≤ 100) (h : ∀ k, k < l.length → sRt Ln l k) : sgnsB Ln js l = true := by
  have hn : numB (nosK l l.length) = true := num_end fun k hk => by
    rw [nosK_len l (Nat.le_refl _)] at hk
    obtain ⟨a, b, c⟩ := h k hk
    unfold rNum
    rw [s_num l hk, a, Bool.true_and, Bool.not_eq_true', anyK_iff]
    intro j hj
    rw [s_num l (by omega)]
    exact beq_false_of_ne (c j hj)
  have ha : allB Ln l = true := by
    unfold allB
    rw [Bool.not_eq_true', anyK_iff]
    intro j hj
    rw [(h j hj).2.1]; rfl
  unfold sgnsB
  rw [h0, hn, ha, decide_eq_true h9]; rfl
theorem e_num (l : List Edc) {k : Nat} (h : k < l.length) : gi (nosE l l.length) k = (ge l k).n := by
  unfold nosE gi ge; simp [h]
theorem e_bad0 {Ln : Int} {js : List Int} {l : List Edc} (h : lineB Ln js = false) : edcsB Ln js l = false := by unfold edcsB; rw [h]; rfl
theorem e_bad9 {Ln : Int} {js : List Int} {l : List Edc} (h : 50 < l.length) : edcsB Ln js l = false := by unfold edcsB; rw [decide_eq_false (by omega), Bool.and_false]; rfl
theorem e_bad1 {Ln : Int} {js : List Int} {l : List Edc} {k : Nat} (hk : k < l.length) (h : btw (ge l k).n 1 1000000000 = false) : edcsB Ln js l = false := by
  unfold edcsB; rw [num_bad1 (k := k) (by rw [nosE_len l (Nat.le_refl _)]; exact hk) (by rw [e_num l hk]; exact h), Bool.and_false]
theorem e_bad2 {Ln : Int} {js : List Int} {l : List Edc} {k : Nat} (hk : k < l.length) (h : edcB Ln (ge l k) = false) : edcsB Ln js l = false := by
  unfold edcsB allE; rw [anyK_true (j := k) (by simp [h]) _ hk]; simp
theorem e_bad3 {Ln : Int} {js : List Int} {l : List Edc} {j k : Nat} (hk : k < l.length) (hj : j < k) (h : (ge l j).n = (ge l k).n) : edcsB Ln js l = false := by
  unfold edcsB; rw [num_bad2 (k := k) (j := j) (by rw [nosE_len l (Nat.le_refl _)]; exact hk) hj (by rw [e_num l hk, e_num l (by omega)]; exact h), Bool.and_false]
/-- One of them is right, and its number is none of those ahead. -/
def eRt (Ln : Int) (l : List Edc) (k : Nat) : Prop := btw (ge l k).n 1 1000000000 = true ∧ edcB Ln (ge l k) = true ∧ ∀ j, j < k → (ge l j).n ≠ (ge l k).n
theorem e_end {Ln : Int} {js : List Int} {l : List Edc} (h0 : lineB Ln js = true) (h9 : l.length ≤ 50) (h : ∀ k, k < l.length → eRt Ln l k) : edcsB Ln js l = true := by
  have hn : numB (nosE l l.length) = true := num_end fun k hk => by
    rw [nosE_len l (Nat.le_refl _)] at hk
    obtain ⟨a, b, c⟩ := h k hk
    unfold rNum
    rw [e_num l hk, a, Bool.true_and, Bool.not_eq_true', anyK_iff]
    intro j hj
    rw [e_num l (by omega)]
    exact beq_false_of_ne (c j hj)
  have ha : allE Ln l = true := by
    unfold allE
    rw [Bool.not_eq_true', anyK_iff]
    intro j hj
    rw [(h j hj).2.1]; rfl
  unfold edcsB
  rw [h0, hn, ha, decide_eq_true h9]; rfl
end Go.Proofs.YtneafbhiencjlaaGreatDoor

namespace Go.Proofs.YtneafbhiencjlaaGreatDoor
set_option linter.unusedVariables false
set_option linter.unusedSimpArgs false
open Go.RowKit

/-- Does one sign stand before another one? -/
def ahS (L dir : Int) (x y : Sgn) : Prop := dstK L dir x.c < dstK L dir y.c ∨ (dstK L dir x.c = dstK L dir y.c ∧ (x.rk < y.rk ∨ (x.rk = y.rk ∧ x.n < y.n)))
instance (L dir : Int) (x y : Sgn) : Decidable (ahS L dir x y) := by unfold ahS; infer_instance
theorem ahS_trans {L dir : Int} {x y z : Sgn} (h1 : ahS L dir x y) (h2 : ahS L dir y z) : ahS L dir x z := by unfold ahS at *; omega
theorem ahS_irr {L dir : Int} {x : Sgn} (h : ahS L dir x x) : False := by unfold ahS at h; omega
theorem ahS_tot {L dir : Int} {x y : Sgn} (h : x.n ≠ y.n) : ahS L dir x y ∨ ahS L dir y x := by unfold ahS; omega
/-- Where a sign goes in a row, from place k down. -/
def plcS (L dir : Int) (x : Sgn) (out : List Sgn) : Nat → Nat
  | 0 => 0
  | k + 1 => if ahS L dir x (gs out k) then plcS L dir x out k else k + 1
theorem plcS_le (L dir : Int) (x : Sgn) (out : List Sgn) : ∀ k, plcS L dir x out k ≤ k
  | 0 => Nat.le_refl _
  | k + 1 => by
    rw [plcS]; split
    · exact Nat.le_succ_of_le (plcS_le L dir x out k)
    · exact Nat.le_refl _
/-- The row of the first k signs as insertion makes it. -/
def insR (L dir h : Int) (l : List Sgn) : Nat → List Sgn
  | 0 => []
  | k + 1 => if selB dir h (gs l k) = true then
      (insR L dir h l k).take (plcS L dir (gs l k) (insR L dir h l k) (insR L dir h l k).length) ++ gs l k :: (insR L dir h l k).drop (plcS L dir (gs l k) (insR L dir h l k) (insR L dir h l k).length)
    else insR L dir h l k
/-- The signs of the row, as they lie in the list. -/
def selR (dir h : Int) (l : List Sgn) : Nat → List Sgn
  | 0 => []
  | k + 1 => if selB dir h (gs l k) = true then selR dir h l k ++ [gs l k] else selR dir h l k
theorem insR_perm (L dir h : Int) (l : List Sgn) : ∀ k, (insR L dir h l k).Perm (selR dir h l k)
  | 0 => List.Perm.refl _
  | k + 1 => by
    have ih := insR_perm L dir h l k
    rw [insR, selR]; split
    · refine List.perm_middle.trans ?_
      rw [List.take_append_drop]
      exact (List.Perm.cons _ ih).trans (List.perm_append_singleton _ _).symm
    · exact ih
theorem rowK_sel (L : Int) (js : List Int) (dir h : Int) (l : List Sgn) (ad : Nat → Option Addr) (cp : Nat → Nat) : ∀ k, (rowK L js dir h l ad cp k).map (fun x => x.1.s) = selR dir h l k
  | 0 => rfl
  | k + 1 => by
    have ih := rowK_sel L js dir h l ad cp k
    rw [rowK, selR]; split
    · rw [List.map_append, ih]; rfl
    · exact ih
theorem selR_mem {dir h : Int} {l : List Sgn} {x : Sgn} : ∀ {k}, x ∈ selR dir h l k → ∃ j, j < k ∧ gs l j = x
  | 0, hx => by simp [selR] at hx
  | k + 1, hx => by
    rw [selR] at hx
    split at hx
    · rw [List.mem_append] at hx
      rcases hx with hx | hx
      · obtain ⟨j, hj, e⟩ := selR_mem hx; exact ⟨j, by omega, e⟩
      · exact ⟨k, by omega, (List.mem_singleton.1 hx).symm⟩
    · obtain ⟨j, hj, e⟩ := selR_mem hx; exact ⟨j, by omega, e⟩
theorem gs_at (l : List Sgn) {i : Nat} (h : i < l.length) : gs l i = l[i] := by unfold gs; simp [h]
/-- Where a sign goes: all before it are ahead of it, it is ahead of all behind. -/
theorem plcS_spec {L dir : Int} {x : Sgn} {out : List Sgn} (hs : out.Pairwise (ahS L dir)) (hx : ∀ y, y ∈ out → y.n ≠ x.n) : ∀ k, k ≤ out.length → (∀ i, i < plcS L dir x out k → ahS L dir (gs out i) x) ∧ (∀ i, plcS L dir x out k ≤ i → i < k → ahS L dir x (gs out i))
  | 0, _ => ⟨fun i hi => absurd hi (Nat.not_lt_zero _), fun i _ hi => absurd hi (Nat.not_lt_zero _)⟩
  | k + 1, hk => by
    rw [plcS]; split
    next h =>
      have ih := plcS_spec hs hx k (by omega)
      refine ⟨ih.1, fun i h1 h2 => ?_⟩
      by_cases e : i = k
      · rw [e]; exact h
      · exact ih.2 i h1 (by omega)
    next h =>
      refine ⟨fun i hi => ?_, fun i h1 h2 => by omega⟩
      have hkx : ahS L dir (gs out k) x := by
        rcases ahS_tot (L := L) (dir := dir) (x := x) (y := gs out k) (fun e => hx _ (by rw [gs_at out (by omega)]; exact List.getElem_mem _) e.symm) with h1 | h1
        · exact absurd h1 h
        · exact h1
      by_cases e : i = k
      · rw [e]; exact hkx
      · have := List.pairwise_iff_getElem.1 hs i k (by omega) (by omega) (by omega)
        rw [← gs_at out (by omega), ← gs_at out (by omega)] at this
        exact ahS_trans this hkx
theorem insR_sorted {L dir h : Int} {l : List Sgn} (hn : ∀ i j, i < j → j < l.length → (gs l i).n ≠ (gs l j).n) : ∀ k, k ≤ l.length → (insR L dir h l k).Pairwise (ahS L dir)
  | 0, _ => List.Pairwise.nil
  | k + 1, hk => by
    have ih := insR_sorted (L := L) (dir := dir) (h := h) hn k (by omega)
    rw [insR]; split
    · have hx : ∀ y, y ∈ insR L dir h l k → y.n ≠ (gs l k).n := fun y hy => by
        obtain ⟨j, hj, e⟩ := selR_mem ((insR_perm L dir h l k).mem_iff.1 hy)
        rw [← e]
        exact hn j k hj (by omega)
      have hp := plcS_spec ih hx (insR L dir h l k).length (Nat.le_refl _)
      have hle := plcS_le L dir (gs l k) (insR L dir h l k) (insR L dir h l k).length
      generalize plcS L dir (gs l k) (insR L dir h l k) (insR L dir h l k).length = p at *
      generalize insR L dir h l k = out at *
      generalize gs l k = x at *
      have ha : ∀ y, y ∈ out.take p → ahS L dir y x := fun y hy => by
        obtain ⟨i, hi, e⟩ := List.getElem_of_mem hy
        simp at hi
        have := hp.1 i (by omega)
        rw [gs_at out (by omega)] at this
        rw [← e, List.getElem_take]; exact this
      have hb : ∀ y, y ∈ out.drop p → ahS L dir x y := fun y hy => by
        obtain ⟨i, hi, e⟩ := List.getElem_of_mem hy
        simp at hi
        have := hp.2 (p + i) (by omega) (by omega)
        rw [gs_at out (by omega)] at this
        rw [← e, List.getElem_drop]; exact this
      refine List.pairwise_append.2 ⟨List.Pairwise.sublist (List.take_sublist _ _) ih, List.pairwise_cons.2 ⟨hb, List.Pairwise.sublist (List.drop_sublist _ _) ih⟩, fun y hy z hz => ?_⟩
      rcases List.mem_cons.1 hz with rfl | hz
      · exact ha y hy
      · exact ahS_trans (ha y hy) (hb z hz)
    · exact ih
/-- Two lists of the same signs, both in order, are one. -/
theorem ord_unique {L dir : Int} : ∀ {s t : List Sgn}, s.Pairwise (ahS L dir) → t.Pairwise (ahS L dir) → s.Perm t → s = t
  | [], t, _, _, hp => (List.Perm.nil_eq hp)
  | x :: s, [], _, _, hp => by have := hp.length_eq; simp at this
  | x :: s, y :: t, hs, ht, hp => by
    have hxy : x = y := by
      have h1 := hp.mem_iff.1 (List.mem_cons_self (a := x) (l := s))
      have h2 := hp.mem_iff.2 (List.mem_cons_self (a := y) (l := t))
      rcases List.mem_cons.1 h1 with e | h1
      · exact e
      · rcases List.mem_cons.1 h2 with e | h2
        · exact e.symm
        · exact (ahS_irr (ahS_trans ((List.pairwise_cons.1 ht).1 x h1) ((List.pairwise_cons.1 hs).1 y h2))).elim
    subst hxy
    rw [ord_unique (List.pairwise_cons.1 hs).2 (List.pairwise_cons.1 ht).2 ((List.perm_cons x).1 hp)]
/-- The signs of the program's row are those of insertion, in that order. -/
theorem row_ins {L : Int} {js : List Int} {dir h : Int} {l : List Sgn} {row : List Pst} (hn : ∀ i j, i < j → j < l.length → (gs l i).n ≠ (gs l j).n) (H : RowL L js dir h l row) : row.map (·.s) = insR L dir h l l.length := by
  obtain ⟨ad, cp, l1, hp, ho, rfl⟩ := H
  have e1 : ((finP l1 (l1.length - 1)).map (·.1)).map (·.s) = l1.map (fun x => x.1.s) := by
    refine List.ext_getElem (by simp [finP_len]) fun i h1 h2 => ?_
    simp [finP_len] at h1 h2
    have hk := finP_keeps l1 (l1.length - 1) i (by omega)
    rw [getElem!_pos _ i (by rw [finP_len]; exact h1), getElem!_pos _ i h1] at hk
    simpa using hk.1
  rw [e1]
  have hps : (l1.map (fun x => x.1.s)).Perm (selR dir h l l.length) := by rw [← rowK_sel L js dir h l ad cp]; exact hp.map _
  have hne : ∀ i j, (hij : i < j) → (hj : j < l1.length) → (l1[i]'(Nat.lt_trans hij hj)).1.s.n ≠ l1[j].1.s.n := by
    have hsel : (selR dir h l l.length).Pairwise (fun x y => x.n ≠ y.n) := by
      have : ∀ k, k ≤ l.length → (selR dir h l k).Pairwise (fun x y => x.n ≠ y.n) := by
        intro k
        induction k with
        | zero => intro _; exact List.Pairwise.nil
        | succ k ih =>
          intro hk
          rw [selR]; split
          · refine List.pairwise_append.2 ⟨ih (by omega), List.pairwise_singleton _ _, fun x hx y hy => ?_⟩
            obtain ⟨j, hj, e⟩ := selR_mem hx
            rw [← e, List.mem_singleton.1 hy]
            exact hn j k hj (by omega)
          · exact ih (by omega)
      exact this _ (Nat.le_refl _)
    have := (hps.pairwise_iff (R := fun x y : Sgn => x.n ≠ y.n) (fun h => h.symm)).2 hsel
    intro i j hij hj
    have := List.pairwise_iff_getElem.1 this i j (by simp; omega) (by simpa using hj) hij
    simpa using this
  refine ord_unique (L := L) (dir := dir) (List.pairwise_iff_getElem.2 fun i j hi hj hij => ?_) (insR_sorted hn _ (Nat.le_refl _)) (hps.trans (insR_perm L dir h l l.length).symm)
  simp at hi hj
  have h1 := ho i j hij hj
  have h2 := hne i j hij hj
  rw [getElem!_pos _ j hj, getElem!_pos _ i hi] at h1
  have hd : ∀ k, (hk : k < l1.length) → l1[k].1.d = dstK L dir l1[k].1.s.c := fun k hk => by
    obtain ⟨m, hm, e⟩ := rowK_mem L js dir h l ad cp l1[k] l.length (hp.mem_iff.1 (List.getElem_mem hk))
    rw [e]; rfl
  simp only [List.getElem_map]
  unfold ahdP at h1
  rw [hd i hi, hd j hj] at h1
  unfold ahS
  omega
end Go.Proofs.YtneafbhiencjlaaGreatDoor
