/-
  The walks of jobsValid and Valid of package shop, and of long. By an AI agent.
-/
import Derived.Test.YtmdifgkalooaoaaShopI
import Derived.Laws.EntriesVeiled
namespace Go.Proofs.Ytmdifgkalooaoaa
set_option linter.unusedVariables false
set_option linter.unusedSimpArgs false
open Go.RowKit

/-- A job is wrong. -/
def jobW (O C M : Int) (l : List Stp) : Bool := decide (8 < l.length) || anyK (fun k => !(stpB O C M (gs l k))) l.length
theorem jobW_iff {O C M : Int} {l : List Stp} : jobW O C M l = false ↔ jobOk O C M l := by
  unfold jobW jobOk
  rw [Bool.or_eq_false_iff, decide_eq_false_iff_not, anyK_iff]
  constructor
  · rintro ⟨h1, h2⟩
    refine ⟨by omega, fun k hk => ?_⟩
    have := h2 k hk
    rw [Bool.not_eq_false'] at this
    exact stpB_iff.1 this
  · rintro ⟨h1, h2⟩
    refine ⟨by omega, fun k hk => ?_⟩
    rw [Bool.not_eq_false']
    exact stpB_iff.2 (h2 k hk)

set_option maxRecDepth 100000 in
set_option maxHeartbeats 1000000 in
/-- The closure of jobsValid for a job: it is wrong. -/
theorem jobs2_any (s : Sh) (aa : Option Addr) (l : List Stp) (ca : Nat) (b b2 : Nat) (w : World) (o0 : 0 ≤ s.O) (o1 : s.O < s.C) (o2 : s.C ≤ 1440) (m0 : 1 ≤ s.M) (m1 : s.M ≤ 6) (hI : StepsS w aa l) (hS : ShAt w b s) (hf : w.cell? ⟨b2, 0, none⟩ = some (.func (.func 88) #[] #[.pointer (some ⟨b, 0, none⟩)])) :
    Calls Try.prog 90 #[.agg #[.slice aa l.length ca], .pointer (some ⟨b2, 0, none⟩)] w fun e w' => e = .returned (.bool (jobW s.O s.C s.M l)) ∧ Below w.heap.size w w' := by
  have hlen := hI.1
  have HCt : Hid (∀ W, Below w.heap.size w W → Calls Try.prog 91 #[.slice aa l.length ca, .func (.func 88) #[] #[.pointer (some ⟨b, 0, none⟩)]] W fun e w' => e = .returned (.bool (anyK (fun k => !(stpB s.O s.C s.M (gs l k))) l.length)) ∧ Below W.heap.size W w') :=
    Lib.hid fun W hW => containsStp_any aa l ca #[.pointer (some ⟨b, 0, none⟩)] _ W (hI.below hW) (fun j W' hj hW' => jobs1_any s _ b W' o0 o1 o2 m0 m1 (hS.on (hW.trans (hW'.mono hW.size))))
  have z2 := block_lt hf
  have q : ∀ o O, (w.alloc O).cell? ⟨b2, o, none⟩ = w.cell? ⟨b2, o, none⟩ := fun o O => ((Below.refl w.heap.size w).alloc (Nat.le_refl _) O).cell (p := ⟨b2, o, none⟩) z2
  unfold jobW
  generalize anyK (fun k => !(stpB s.O s.C s.M (gs l k))) l.length = K at *
  clear hI hS
  by_cases h8 : 8 < l.length
  · have d1 : decide (8 < l.length) = true := by simpa using h8
    have n8 : (8 : Int) < l.length := by omega
    rw [d1, Bool.true_or]
    clear HCt d1
    go_enter Try.func90, Try.ntmps90
    go_wp2_with fail
    go_ret
    exact ⟨rfl, (Below.refl _ _).alloc (Nat.le_refl _) _⟩
  · have d1 : decide (8 < l.length) = false := by simpa using h8
    have n8 : ¬ (8 : Int) < l.length := by omega
    rw [d1, Bool.false_or]
    clear d1
    have hb : ∀ O, Below w.heap.size w (w.alloc O) := fun O => (Below.refl _ _).alloc (Nat.le_refl _) _
    have HB := Lib.hid hb
    clear hb
    go_enter Try.func90, Try.ntmps90
    go_wp2_with fail
    refine (HCt.out _ (HB.out _)).mono ?_
    rintro e w1 ⟨rfl, hb1⟩
    go_wp2_with fail
    go_ret
    exact ⟨rfl, (HB.out _).trans (hb1.mono (HB.out _).size)⟩

set_option maxRecDepth 100000 in
set_option maxHeartbeats 1000000 in
theorem jobsValid_any (s : Sh) (w : World) (hI : JobsS w s.aJ s.J) (o0 : 0 ≤ s.O) (o1 : s.O < s.C) (o2 : s.C ≤ 1440) (m0 : 1 ≤ s.M) (m1 : s.M ≤ 6) :
    Calls Try.prog 52 #[.agg #[.int .i64 s.O, .int .i64 s.C, .slice s.aH s.H.length s.cH, .int .i64 s.M, .slice s.aS s.S.length s.cS, .slice s.aJ s.J.length s.cJ]] w fun e w' => e = .returned (.bool (jobsB s)) ∧ Below w.heap.size w w' := by
  obtain ⟨blk, off, ad, cp, hA⟩ := hI.at
  have hlen := hA.1
  have hV : s.J.length ≤ 12 → jobsB s = !(anyK (fun i => jobW s.O s.C s.M (gj s.J i)) s.J.length) := fun h1 => by
    cases h : anyK (fun i => jobW s.O s.C s.M (gj s.J i)) s.J.length with
    | false => exact jobsB_t ⟨h1, fun i hi => jobW_iff.1 ((anyK_iff _).1 h i hi)⟩
    | true =>
      refine jobsB_f fun g => ?_
      rw [(anyK_iff _).2 fun j hj => jobW_iff.2 (g.2 j hj)] at h
      cases h
  have hB := ShBox.start w s 25
  by_cases h12 : s.J.length ≤ 12
  · have n12 : ¬ (12 : Int) < s.J.length := by omega
    have HR := Lib.hid (hV h12)
    have HCt : Hid (∀ b b2 W, Below w.heap.size w W → ShAt W b s → W.cell? ⟨b2, 0, none⟩ = some (.func (.func 88) #[] #[.pointer (some ⟨b, 0, none⟩)]) → Calls Try.prog 89 #[.slice s.aJ s.J.length s.cJ, .func (.func 90) #[] #[.pointer (some ⟨b2, 0, none⟩)]] W fun e w' => e = .returned (.bool (anyK (fun i => jobW s.O s.C s.M (gj s.J i)) s.J.length)) ∧ Below W.heap.size W w') :=
      Lib.hid fun b b2 W hW hS hf => containsJob_any s.aJ s.J blk off ad cp s.cJ #[.pointer (some ⟨b2, 0, none⟩)] _ W (hA.below hW) (fun j W' hj hW' => jobs2_any s _ _ _ b b2 W' o0 o1 o2 m0 m1 ((hA.below (hW.trans (hW'.mono hW.size))).2.2 j hj).2.1 (hS.on hW') (cell_below hf hW'))
    clear hV h12 hA hI
    generalize anyK (fun i => jobW s.O s.C s.M (gj s.J i)) s.J.length = K at *
    generalize jobsB s = R at *
    go_enter Try.func52, Try.ntmps52
    go_wp2_with fail
    obtain ⟨wC, hwC⟩ : ∃ wC, (w.alloc (.cells #[.int .i64 s.O, .int .i64 s.C, .slice s.aH s.H.length s.cH, .int .i64 s.M, .slice s.aS s.S.length s.cS, .slice s.aJ s.J.length s.cJ] 25)).alloc (.cells #[.func (.func 88) #[] #[.pointer (some ⟨w.heap.size, 0, none⟩)]] 107) = wC := ⟨_, rfl⟩
    have hC : ShBox w wC s := by rw [← hwC]; exact hB.on ((Below.refl _ _).alloc (Nat.le_refl _) _)
    have hf : wC.cell? ⟨w.heap.size + 1, 0, none⟩ = some (.func (.func 88) #[] #[.pointer (some ⟨w.heap.size, 0, none⟩)]) := by rw [← hwC]; simp [go_sem]
    rw [hwC]
    refine (HCt.out w.heap.size (w.heap.size + 1) _ hC.1 hC.2 hf).mono ?_
    rintro e w1 ⟨rfl, hb1⟩
    go_wp2_with fail
    all_goals
      go_ret
      rw [HR.out]
      exact ⟨by first | rfl | simp_all, hC.1.trans (hb1.mono hC.1.size)⟩
  · have n12 : (12 : Int) < s.J.length := by omega
    have HR := Lib.hid (jobsB_f (s := s) fun g => h12 g.1)
    clear hV h12 hA hI
    generalize jobsB s = R at *
    go_enter Try.func52, Try.ntmps52
    go_wp2_with fail
    go_ret
    rw [HR.out]
    exact ⟨rfl, hB.1⟩

theorem shB_eq {s : Sh} : shB s = (decide (0 ≤ s.O) && (decide (s.O < s.C) && (decide (s.C ≤ 1440) && (holB s.H && (machB s && jobsB s))))) := by
  rw [Bool.eq_iff_iff, shB_iff]
  simp only [Bool.and_eq_true, decide_eq_true_iff, holB_iff, machB_iff, jobsB_iff]
  unfold ShOk MachOk JobsOk
  constructor
  · rintro ⟨⟨h1, h2, h3⟩, h4, h5, h6⟩; exact ⟨h1, h2, h3, h4, h5, h6⟩
  · rintro ⟨h1, h2, h3, h4, h5, h6⟩; exact ⟨⟨h1, h2, h3⟩, h4, h5, h6⟩

set_option maxRecDepth 100000 in
set_option maxHeartbeats 1000000 in
theorem Valid_sh (s : Sh) (w : World) (hI : ShS w s) :
    Calls Try.prog 21 #[.agg #[.int .i64 s.O, .int .i64 s.C, .slice s.aH s.H.length s.cH, .int .i64 s.M, .slice s.aS s.S.length s.cS, .slice s.aJ s.J.length s.cJ]] w fun e w' => e = .returned (.bool (shB s)) ∧ Below w.heap.size w w' := by
  have HH := Lib.hid (fun W (hW : Below w.heap.size w W) => holValid_any s.aH s.H s.cH W (hI.1.below hW))
  have HM := Lib.hid (fun W (hW : Below w.heap.size w W) => machValid_any s W (hI.2.1.below hW))
  have HJ := Lib.hid (fun W (hW : Below w.heap.size w W) => jobsValid_any s W (hI.2.2.below hW))
  have hB := ShBox.start w s 25
  have HE := Lib.hid (shB_eq (s := s))
  have HMt : Hid (machB s = true → 1 ≤ s.M ∧ s.M ≤ 6) := Lib.hid fun h => (machB_iff.1 h).1
  generalize shB s = R at *
  clear hI
  by_cases hd : 0 ≤ s.O ∧ s.O < s.C ∧ s.C ≤ 1440
  · obtain ⟨o0, o1, o2⟩ := hd
    have HE : Hid (R = (holB s.H && (machB s && jobsB s))) := Lib.hid (by rw [HE.out]; simp [o0, o1, o2])
    cases hh : holB s.H with
    | false =>
      have HR : Hid (R = false) := Lib.hid (by rw [HE.out, hh]; rfl)
      rw [hh] at HH
      clear HE HM HJ HMt hh
      go_enter Try.func21, Try.ntmps21
      go_wp2_with fail
      obtain ⟨wB, hwB⟩ : ∃ wB, w.alloc (.cells #[.int .i64 s.O, .int .i64 s.C, .slice s.aH s.H.length s.cH, .int .i64 s.M, .slice s.aS s.S.length s.cS, .slice s.aJ s.J.length s.cJ] 25) = wB := ⟨_, rfl⟩
      rw [hwB] at hB ⊢
      clear hwB
      refine (HH.out _ hB.1).mono ?_
      rintro e w1 ⟨rfl, hb1⟩
      go_wp2_with fail
      go_ret
      rw [HR.out]
      exact ⟨rfl, hB.1.trans (hb1.mono hB.1.size)⟩
    | true =>
      rw [hh] at HH
      cases hm : machB s with
      | false =>
        have HR : Hid (R = false) := Lib.hid (by rw [HE.out, hm]; simp)
        rw [hm] at HM
        clear HE HJ HMt hh hm
        go_enter Try.func21, Try.ntmps21
        go_wp2_with fail
        obtain ⟨wB, hwB⟩ : ∃ wB, w.alloc (.cells #[.int .i64 s.O, .int .i64 s.C, .slice s.aH s.H.length s.cH, .int .i64 s.M, .slice s.aS s.S.length s.cS, .slice s.aJ s.J.length s.cJ] 25) = wB := ⟨_, rfl⟩
        rw [hwB] at hB ⊢
        clear hwB
        refine (HH.out _ hB.1).mono ?_
        rintro e w1 ⟨rfl, hb1⟩
        have HB1 := Lib.hid (hB.on hb1)
        obtain ⟨hb, p0, p1, p2, p3, p4, p5⟩ := hB.on hb1
        clear hb1 hB
        go_wp2_with fail
        refine (HM.out _ hb).mono ?_
        rintro e w2 ⟨rfl, hb2⟩
        go_wp2_with fail
        go_ret
        rw [HR.out]
        exact ⟨rfl, hb.trans (hb2.mono hb.size)⟩
      | true =>
        have HR : Hid (R = jobsB s) := Lib.hid (by rw [HE.out, hh, hm]; simp)
        rw [hm] at HM
        obtain ⟨m0, m1⟩ := HMt.out hm
        have HJ := Lib.hid (fun W hW => HJ.out W hW o0 o1 o2 m0 m1)
        generalize jobsB s = j at *
        clear HE HMt hh hm
        go_enter Try.func21, Try.ntmps21
        go_wp2_with fail
        obtain ⟨wB, hwB⟩ : ∃ wB, w.alloc (.cells #[.int .i64 s.O, .int .i64 s.C, .slice s.aH s.H.length s.cH, .int .i64 s.M, .slice s.aS s.S.length s.cS, .slice s.aJ s.J.length s.cJ] 25) = wB := ⟨_, rfl⟩
        rw [hwB] at hB ⊢
        clear hwB
        refine (HH.out _ hB.1).mono ?_
        rintro e w1 ⟨rfl, hb1⟩
        have HB1 := Lib.hid (hB.on hb1)
        obtain ⟨hb, p0, p1, p2, p3, p4, p5⟩ := hB.on hb1
        clear hb1 hB
        go_wp2_with fail
        refine (HM.out _ hb).mono ?_
        rintro e w2 ⟨rfl, hb2⟩
        have HB2 := Lib.hid (HB1.out.on hb2)
        obtain ⟨hb, p0, p1, p2, p3, p4, p5⟩ := HB1.out.on hb2
        clear hb2 HB1
        go_wp2_with fail
        refine (HJ.out _ hb).mono ?_
        rintro e w3 ⟨rfl, hb3⟩
        go_wp2_with fail
        go_ret
        rw [HR.out]
        exact ⟨rfl, hb.trans (hb3.mono hb.size)⟩
  · have HR : Hid (R = false) := Lib.hid (by
      rw [HE.out]
      by_cases g1 : 0 ≤ s.O
      · by_cases g2 : s.O < s.C
        · have g3 : ¬ s.C ≤ 1440 := fun g => hd ⟨g1, g2, g⟩
          simp [g3]
        · simp [g2]
      · simp [g1])
    clear HE HH HM HJ HMt
    by_cases g1 : 0 ≤ s.O
    · by_cases g2 : s.O < s.C
      · have g3 : ¬ s.C ≤ 1440 := fun g => hd ⟨g1, g2, g⟩
        clear hd
        go_enter Try.func21, Try.ntmps21
        go_wp2_with fail
        go_ret
        rw [HR.out]
        exact ⟨rfl, hB.1⟩
      · clear hd
        go_enter Try.func21, Try.ntmps21
        go_wp2_with fail
        go_ret
        rw [HR.out]
        exact ⟨rfl, hB.1⟩
    · clear hd
      go_enter Try.func21, Try.ntmps21
      go_wp2_with fail
      go_ret
      rw [HR.out]
      exact ⟨rfl, hB.1⟩
end Go.Proofs.Ytmdifgkalooaoaa
