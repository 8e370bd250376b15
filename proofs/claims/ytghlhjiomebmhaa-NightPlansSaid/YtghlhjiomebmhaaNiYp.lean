/-
  The exhaustive search of the reference of package night finds the least of the greatest plans: plain mathematics. By an AI agent.
-/
import Derived.Test.YtghlhjiomebmhaaNiYn
import Derived.Test.YtghlhjiomebmhaaNiYr
namespace Go.Proofs.Ytghlhjiomebmhaa
set_option linter.unusedVariables false
set_option linter.unusedSimpArgs false
open Go.RowKit

section
variable (js : List Jo) (ns : List Ni)
/-- The k-th choice: a night, or none behind all of them. -/
def chcN (N k : Nat) : Int := if k < N then (k : Int) else -1
/-- The best of the first k choices behind pre. -/
def bstK (F : List Int → List Int) (pre : List Int) : Nat → Option (List Int)
  | 0 => none
  | k + 1 =>
    if k < ns.length ∧ rgtB js ns (pre ++ [chcN ns.length k]) = false then bstK F pre k else
    match bstK F pre k with
    | none => some (F (pre ++ [chcN ns.length k]))
    | some o => if dnK o o.length < dnK (F (pre ++ [chcN ns.length k])) (F (pre ++ [chcN ns.length k])).length then some (F (pre ++ [chcN ns.length k])) else some o
/-- The best plan that begins with pre, m jobs more. -/
def bstF : Nat → List Int → List Int
  | 0, pre => pre
  | m + 1, pre => (bstK js ns (bstF m) pre (ns.length + 1)).getD []
end
section
variable {js : List Jo} {ns : List Ni}
def InRg (N : Nat) (l : List Int) : Prop := ∀ i, i < l.length → -1 ≤ gi l i ∧ gi l i < N
def Ext (pre q : List Int) : Prop := ∀ i, i < pre.length → gi q i = gi pre i
theorem ordN_b {N : Nat} {x : Int} (h : -1 ≤ x ∧ x < N) : 0 ≤ ordN N x ∧ ordN N x ≤ N := by
  unfold ordN; split <;> omega
theorem chc_of {N : Nat} {x : Int} (h : -1 ≤ x ∧ x < N) : x = chcN N (ordN N x).toNat := by
  unfold chcN ordN
  by_cases e : x = -1
  · rw [if_pos e, if_neg (by omega)]; exact e
  · rw [if_neg e, if_pos (by omega)]; omega
theorem ord_chc {N k : Nat} (h : k ≤ N) : ordN N (chcN N k) = k := by
  unfold chcN ordN
  by_cases e : k < N
  · rw [if_pos e, if_neg (by omega)]
  · rw [if_neg e, if_pos rfl]; omega
theorem chc_b {N k : Nat} : -1 ≤ chcN N k ∧ chcN N k < N ∨ chcN N k = -1 := by
  unfold chcN; split
  · exact .inl (by omega)
  · exact .inr rfl
theorem cK_mono (f : Nat → Bool) {a : Nat} : ∀ {b : Nat}, a ≤ b → cK f a ≤ cK f b
  | 0, h => by
    obtain rfl : a = 0 := by omega
    exact Nat.le_refl _
  | b + 1, h => by
    by_cases e : a = b + 1
    · subst e; exact Nat.le_refl _
    · have := cK_mono f (a := a) (b := b) (by omega)
      show cK f a ≤ cK f b + _
      omega
theorem rgt_pre {pre q : List Int} (he : Ext pre q) (hl : pre.length ≤ q.length) (h : rgtB js ns q = true) : rgtB js ns pre = true := by
  rw [rgtB_iff] at h ⊢
  intro k hk
  obtain ⟨h1, h2⟩ := h k hk
  refine ⟨fun i hi e => h1 i (by omega) (by rw [he i hi]; exact e), ?_⟩
  have h3 := cK_mono (fun i => gi q i == (k : Int)) hl
  rw [cK_congr (g := fun i => gi pre i == (k : Int)) pre.length fun i hi => by rw [he i hi]] at h3
  omega
theorem gi_snoc (pre : List Int) (x : Int) : gi (pre ++ [x]) pre.length = x := by rw [gi_app, if_neg (by omega), if_pos rfl]
theorem ext_snoc {pre q : List Int} {x : Int} (he : Ext pre q) (hx : gi q pre.length = x) : Ext (pre ++ [x]) q := fun i hi => by
  rw [List.length_append] at hi
  simp at hi
  rw [gi_app]
  by_cases e : i < pre.length
  · rw [if_pos e]; exact he i e
  · rw [if_neg e, if_pos (by omega)]
    have : i = pre.length := by omega
    rw [this]; exact hx
theorem ext_of_snoc {pre q : List Int} {x : Int} (he : Ext (pre ++ [x]) q) : Ext pre q ∧ gi q pre.length = x := by
  refine ⟨fun i hi => ?_, ?_⟩
  · rw [he i (by simp; omega), gi_app, if_pos hi]
  · rw [he pre.length (by simp), gi_snoc]
/-- A plan of all jobs that is right and in range. -/
structure FullR (js : List Jo) (ns : List Ni) (q : List Int) : Prop where
  len : q.length = js.length
  rng : InRg ns.length q
  rgt : rgtB js ns q = true
/-- No such plan of a set does more, or as many and is less. -/
def Opt (js : List Jo) (ns : List Ni) (S : List Int → Prop) (r : List Int) : Prop :=
  FullR js ns r ∧ S r ∧ ∀ q, FullR js ns q → S q → dnK q js.length ≤ dnK r js.length ∧ (dnK q js.length = dnK r js.length → ∀ k, k < js.length → (∀ i, i < k → gi q i = gi r i) → ordN ns.length (gi r k) ≤ ordN ns.length (gi q k))
theorem bstK_opt {F : List Int → List Int} {pre : List Int} {m : Nat} (hm : pre.length + (m + 1) = js.length)
    (hF : ∀ k, k ≤ ns.length → rgtB js ns (pre ++ [chcN ns.length k]) = true → Opt js ns (Ext (pre ++ [chcN ns.length k])) (F (pre ++ [chcN ns.length k])))
    (hr : rgtB js ns (pre ++ [chcN ns.length ns.length]) = true) : ∀ k, k ≤ ns.length + 1 →
    match bstK js ns F pre k with
    | none => ∀ q, FullR js ns q → Ext pre q → (k : Int) ≤ ordN ns.length (gi q pre.length)
    | some o => Opt js ns (fun q => Ext pre q ∧ ordN ns.length (gi q pre.length) < k) o
  | 0, _ => by
    intro q hq he
    have := ordN_b (hq.rng pre.length (by rw [hq.len]; omega))
    simpa using this.1
  | k + 1, hk => by
    have ih := bstK_opt hm hF hr k (by omega)
    -- the plans whose next choice is k
    have hset : ∀ q, FullR js ns q → Ext pre q → ordN ns.length (gi q pre.length) < ((k + 1 : Nat) : Int) → ordN ns.length (gi q pre.length) < (k : Int) ∨ Ext (pre ++ [chcN ns.length k]) q := fun q hq he h => by
      have hb := hq.rng pre.length (by rw [hq.len]; omega)
      have h2 := ordN_b hb
      by_cases e : ordN ns.length (gi q pre.length) = k
      · right
        refine ext_snoc he ?_
        rw [chc_of hb, e]
        simp
      · left; omega
    have hord : ∀ q, Ext (pre ++ [chcN ns.length k]) q → ordN ns.length (gi q pre.length) = k := fun q he => by
      rw [(ext_of_snoc he).2]; exact ord_chc (by omega)
    unfold bstK
    by_cases hsk : k < ns.length ∧ rgtB js ns (pre ++ [chcN ns.length k]) = false
    · rw [if_pos hsk]
      have hno : ∀ q, FullR js ns q → ¬ Ext (pre ++ [chcN ns.length k]) q := fun q hq he => by
        have := rgt_pre (js := js) (ns := ns) he (by rw [hq.len]; simp; omega) hq.rgt
        rw [this] at hsk; cases hsk.2
      cases e : bstK js ns F pre k with
      | none =>
        rw [e] at ih
        intro q hq he
        have h1 := ih q hq he
        by_cases h2 : ordN ns.length (gi q pre.length) < ((k + 1 : Nat) : Int)
        · rcases hset q hq he h2 with h3 | h3
          · omega
          · exact absurd h3 (hno q hq)
        · omega
      | some o =>
        rw [e] at ih
        obtain ⟨h1, ⟨h2, h3⟩, h4⟩ := ih
        refine ⟨h1, ⟨h2, by omega⟩, fun q hq ⟨he, h5⟩ => ?_⟩
        rcases hset q hq he h5 with h6 | h6
        · exact h4 q hq ⟨he, h6⟩
        · exact absurd h6 (hno q hq)
    · rw [if_neg hsk]
      have hrk : rgtB js ns (pre ++ [chcN ns.length k]) = true := by
        by_cases e : k < ns.length
        · cases e2 : rgtB js ns (pre ++ [chcN ns.length k]) with
          | true => rfl
          | false => exact absurd ⟨e, e2⟩ hsk
        · have : k = ns.length := by omega
          rw [this]; exact hr
      obtain ⟨g1, g2, g3⟩ := hF k (by omega) hrk
      generalize F (pre ++ [chcN ns.length k]) = r at *
      have hrk2 := hord r g2
      cases e : bstK js ns F pre k with
      | none =>
        rw [e] at ih
        refine ⟨g1, ⟨(ext_of_snoc g2).1, by rw [hrk2]; omega⟩, fun q hq ⟨he, h5⟩ => ?_⟩
        rcases hset q hq he h5 with h6 | h6
        · have := ih q hq he; omega
        · exact g3 q hq h6
      | some o =>
        rw [e] at ih
        obtain ⟨h1, ⟨h2, h3⟩, h4⟩ := ih
        show match (if dnK o o.length < dnK r r.length then some r else some o) with
          | none => _
          | some o => Opt js ns (fun q => Ext pre q ∧ ordN ns.length (gi q pre.length) < ((k + 1 : Nat) : Int)) o
        by_cases hd : dnK o o.length < dnK r r.length
        · rw [if_pos hd]
          rw [h1.len, g1.len] at hd
          refine ⟨g1, ⟨(ext_of_snoc g2).1, by rw [hrk2]; omega⟩, fun q hq ⟨he, h5⟩ => ?_⟩
          rcases hset q hq he h5 with h6 | h6
          · have := (h4 q hq ⟨he, h6⟩).1
            exact ⟨by omega, fun h => by omega⟩
          · exact g3 q hq h6
        · rw [if_neg hd]
          rw [h1.len, g1.len] at hd
          refine ⟨h1, ⟨h2, by omega⟩, fun q hq ⟨he, h5⟩ => ?_⟩
          rcases hset q hq he h5 with h6 | h6
          · exact h4 q hq ⟨he, h6⟩
          · have h7 := (g3 q hq h6).1
            refine ⟨by omega, fun hdq j hj hag => ?_⟩
            have h8 := hord q h6
            by_cases c1 : j < pre.length
            · rw [h2 j c1, he j c1]; exact Int.le_refl _
            · by_cases c2 : j = pre.length
              · subst c2; omega
              · have := hag pre.length (by omega)
                rw [this] at h8; omega
theorem rgt_none {pre : List Int} (h : rgtB js ns pre = true) : rgtB js ns (pre ++ [-1]) = true := by
  rw [rgtB_iff] at h ⊢
  intro k hk
  obtain ⟨h1, h2⟩ := h k hk
  refine ⟨fun i hi e => ?_, ?_⟩
  · rw [List.length_append] at hi
    simp at hi
    rw [gi_app] at e
    by_cases c : i < pre.length
    · rw [if_pos c] at e; exact h1 i c e
    · rw [if_neg c, if_pos (by omega)] at e; omega
  · rw [List.length_append]
    show ((cK (fun i => gi (pre ++ [-1]) i == (k : Int)) (pre.length + 1) : Nat) : Int) ≤ _
    unfold cK
    rw [gi_snoc, cK_congr (g := fun i => gi pre i == (k : Int)) pre.length fun i hi => by rw [gi_app, if_pos hi]]
    rw [if_neg (by simp)]
    omega
/-- The search finds the optimum behind any right beginning. -/
theorem bstF_opt : ∀ m pre, pre.length + m = js.length → InRg ns.length pre → rgtB js ns pre = true → Opt js ns (Ext pre) (bstF js ns m pre)
  | 0, pre, hl, hi, hr => by
    refine ⟨⟨by unfold bstF; omega, hi, hr⟩, fun i _ => rfl, fun q hq he => ?_⟩
    have e : q = pre := gi_ext (by rw [hq.len]; omega) fun i hi => he i (by have := hq.len; omega)
    show dnK q _ ≤ dnK pre _ ∧ (dnK q _ = dnK pre _ → _)
    rw [e]
    exact ⟨Nat.le_refl _, fun _ k _ _ => Int.le_refl _⟩
  | m + 1, pre, hl, hi, hr => by
    have hrn : rgtB js ns (pre ++ [chcN ns.length ns.length]) = true := by
      have : chcN ns.length ns.length = -1 := by unfold chcN; rw [if_neg (by omega)]
      rw [this]; exact rgt_none hr
    have hF : ∀ k, k ≤ ns.length → rgtB js ns (pre ++ [chcN ns.length k]) = true → Opt js ns (Ext (pre ++ [chcN ns.length k])) (bstF js ns m (pre ++ [chcN ns.length k])) := fun k hk hrk =>
      bstF_opt m _ (by rw [List.length_append]; simp; omega) (fun i hi2 => by
        rw [List.length_append] at hi2
        simp at hi2
        rw [gi_app]
        by_cases c : i < pre.length
        · rw [if_pos c]; exact hi i c
        · rw [if_neg c, if_pos (by omega)]
          unfold chcN; split <;> omega) hrk
    have h := bstK_opt (F := bstF js ns m) hl hF hrn (ns.length + 1) (Nat.le_refl _)
    have hnn : bstK js ns (bstF js ns m) pre (ns.length + 1) ≠ none := by
      unfold bstK
      rw [if_neg (fun h => absurd h.1 (Nat.lt_irrefl _))]
      cases bstK js ns (bstF js ns m) pre ns.length with
      | none => intro h; cases h
      | some o =>
        show (if _ then _ else _) ≠ none
        split <;> simp
    unfold bstF
    cases e : bstK js ns (bstF js ns m) pre (ns.length + 1) with
    | none => exact absurd e hnn
    | some o =>
      rw [e] at h
      obtain ⟨h1, ⟨h2, h3⟩, h4⟩ := h
      refine ⟨h1, h2, fun q hq he => h4 q hq ⟨he, ?_⟩⟩
      have := ordN_b (hq.rng pre.length (by rw [hq.len]; omega))
      omega
theorem full_good {q : List Int} : FullR js ns q ↔ GoodP (chL js ns) (psL ns) js.length ns.length q := by
  constructor
  · intro h
    exact (rgt_good (plnB_iff.2 ⟨h.len, h.rng⟩)).1 h.rgt
  · intro h
    have hp := good_pln h
    exact ⟨h.len, (plnB_iff.1 hp).2, (rgt_good hp).2 h⟩
/-- The reference's plan is Best's. -/
theorem bst_best (hps : ∀ i, i < ns.length → 0 ≤ (gn ns i).p) : bstF js ns js.length [] = bestL js ns := by
  have h0 : rgtB js ns [] = true := rgtB_iff.2 fun k hk => ⟨fun i hi => absurd hi (Nat.not_lt_zero _), by
    show ((cK _ 0 : Nat) : Int) ≤ _
    have := hps k hk
    simpa [cK] using this⟩
  obtain ⟨h1, -, h2⟩ := bstF_opt (js := js) (ns := ns) js.length [] (by simp) (fun i hi => absurd hi (Nat.not_lt_zero _)) h0
  have hB := bestL_best js ns hps
  have hdn : ∀ q, GoodP (chL js ns) (psL ns) js.length ns.length q → (dnK q js.length : Int) = dnN q := fun q hq => by rw [← dn_dnK hq, hq.len]
  have hg := full_good.1 h1
  have hmx := most_max hps hg
  have h3 := (h2 _ (full_good.2 hB.good) (fun i hi => absurd hi (Nat.not_lt_zero _))).1
  have e1 := hdn _ hg
  have e2 := hdn _ hB.good
  have e3 := hB.most
  have hm : dnN (bstF js ns js.length []) = mostN js ns := by omega
  refine best_unique ⟨hg, hm, fun q hq hd k hk hag => ?_⟩ hB
  have e4 := hdn _ hq
  exact (h2 q (full_good.2 hq) (fun i hi => absurd hi (Nat.not_lt_zero _))).2 (by omega) k hk hag
end
end Go.Proofs.Ytghlhjiomebmhaa
