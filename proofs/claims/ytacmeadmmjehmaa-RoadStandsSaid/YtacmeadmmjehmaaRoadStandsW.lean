/-
  The law RoadStands: it answers true. By an AI agent.
-/
import Derived.Test.YtacmeadmmjehmaaRoadN
import Derived.Test.YtacmeadmmjehmaaRoadAw
namespace Go.Proofs.Ytacmeadmmjehmaa
set_option linter.unusedVariables false
set_option linter.unusedSimpArgs false
open Go.RowKit

/-- What Warn returns, whatever it is given. -/
theorem warn_some (d k s : Int) : ∃ x y E : Int, (E = 0 ∨ E = 2) ∧ ∀ W, Calls Try.prog 40 #[.int .i64 d, .int .i64 k, .int .i64 s] W fun e w' => e = .returned (.tuple #[.agg #[.int .i64 x, .int .i64 y], .int .i64 E]) ∧ Below W.heap.size W w' := by
  by_cases h1 : k = 1
  · subst h1
    by_cases h : (0 ≤ d ∧ d ≤ 10000000) ∧ 10 ≤ s ∧ s ≤ 200
    · exact ⟨_, _, _, .inl rfl, fun W => Warn_up d s W h.1 h.2⟩
    · exact ⟨_, _, _, .inr rfl, fun W => Warn_f1 d s W h⟩
  · by_cases h2 : k = -1
    · subst h2
      by_cases h : (0 ≤ d ∧ d ≤ 10000000) ∧ 10 ≤ s ∧ s ≤ 200
      · exact ⟨_, _, _, .inl rfl, fun W => Warn_dn d s W h.1 h.2⟩
      · exact ⟨_, _, _, .inr rfl, fun W => Warn_fm d s W h⟩
    · exact ⟨_, _, _, .inr rfl, fun W => Warn_no d k s W h1 h2⟩
set_option maxRecDepth 100000 in
set_option maxHeartbeats 2000000 in
theorem roadStands_any (d k s mo : Int) (w : World) (hd : I64 d) (hk : I64 k) (hs : I64 s) (hm : 0 ≤ mo ∧ mo ≤ 65535) :
    Calls Try.prog 11 #[.agg #[.int .i64 d, .int .i64 k, .int .i64 s, .int .u16 mo]] w fun e w' => e = .returned (.bool true) ∧ Below w.heap.size w w' := by
  have HA := Lib.hid awake_any
  obtain ⟨m0, m1⟩ := hm
  have hr0 : 0 ≤ mo % 600 := by omega
  have hr1 : mo % 600 < 600 := by omega
  by_cases h1 : k = 1
  · subst h1
    by_cases hdd : 0 ≤ d ∧ d ≤ 10000000
    · obtain ⟨d0, d1⟩ := hdd
      obtain ⟨m, hmm⟩ : ∃ m, mo % 600 = m := ⟨_, rfl⟩
      rw [hmm] at hr0 hr1
      obtain ⟨c, hc⟩ : ∃ c, d - m + 100 = c := ⟨_, rfl⟩
      clear hd hk hs
      by_cases hcc : 0 ≤ c ∧ c ≤ 10000000
      · obtain ⟨g, hg⟩ : ∃ g, d - c = g := ⟨_, rfl⟩
        have HAh := Lib.hid (fun W => Ahead_up c d W hcc ⟨d0, d1⟩)
        rw [hg] at HAh
        by_cases hss : 10 ≤ s ∧ s ≤ 200
        · have HW := Lib.hid (fun W => Warn_up d s W ⟨d0, d1⟩ hss)
          have hwv : wnV d 1 s = if d - lstV s < 0 then (0, 0) else (max (d - lstV s - 100) 0, d - lstV s + 1) := by unfold wnV; rw [if_neg (by decide)]
          obtain ⟨c0, c1⟩ := hcc
          clear hss
          rcases lstV_c s with ⟨g1, hl⟩ | ⟨g1, g2, hl⟩ | ⟨g1, hl⟩
          · rw [hl] at hwv
            have HQ : Hid (((wnV d 1 s).1 ≤ c ∧ c < (wnV d 1 s).2) ↔ (50 ≤ g ∧ g ≤ 50 + 100)) := Lib.hid (by
              rw [hwv]
              split <;> simp only [] <;> omega)
            have hc := Lib.hid hc
            clear hwv hl hg
            generalize (wnV d 1 s).1 = x at *
            generalize (wnV d 1 s).2 = y at *
            have hc := hc.out
            have hcase : (x ≤ c ∧ c < y ∧ 50 ≤ g ∧ g ≤ 150) ∨ (c < x ∧ g < 50) ∨ (c < x ∧ 50 ≤ g ∧ 150 < g) ∨ (x ≤ c ∧ y ≤ c ∧ g < 50) ∨ (x ≤ c ∧ y ≤ c ∧ 50 ≤ g ∧ 150 < g) := by have := HQ.out; omega
            clear HQ
            rcases hcase with ⟨q1, q2, q3, q4⟩ | ⟨q1, q2⟩ | ⟨q1, q2, q3⟩ | ⟨q1, q2, q3⟩ | ⟨q1, q2, q3, q4⟩
            all_goals
              go_enter Try.func11, Try.ntmps11
              go_wp2_with fail
              obtain ⟨wB, hwB⟩ : ∃ wB, w.alloc (.cells #[.int .i64 d, .int .i64 1, .int .i64 s, .int .u16 mo] 55) = wB := ⟨_, rfl⟩
              have hb : Below w.heap.size w wB := by rw [← hwB]; exact (Below.refl _ _).alloc (Nat.le_refl _) _
              have p0 : wB.cell? ⟨w.heap.size, 0, none⟩ = some (.int .i64 d) := by rw [← hwB]; simp [go_sem]
              have p1 : wB.cell? ⟨w.heap.size, 1, none⟩ = some (.int .i64 1) := by rw [← hwB]; simp [go_sem]
              have p2 : wB.cell? ⟨w.heap.size, 2, none⟩ = some (.int .i64 s) := by rw [← hwB]; simp [go_sem]
              have p3 : wB.cell? ⟨w.heap.size, 3, none⟩ = some (.int .u16 mo) := by rw [← hwB]; simp [go_sem]
              rw [hwB]
              clear hwB
              go_quiet (fail)
              have hb := below_drewN hb nq
              generalize wB.drewN nq = wC at hb ⊢
              clear p0 p1 p2 p3
              go_wp2_with fail
              refine (HAh.out _).mono ?_
              rintro e w1 ⟨rfl, hb1⟩
              have hb := below_on hb hb1
              clear hb1
              go_wp2_with fail
              refine (HW.out _).mono ?_
              rintro e w2 ⟨rfl, hb2⟩
              have hb := below_on hb hb2
              clear hb2
              go_wp2_with fail
              have hb := below_al hb (.cells #[.int .i64 x, .int .i64 y] 35)
              refine (HA.out _).mono ?_
              rintro e w3 ⟨rfl, hb3⟩
              go_wp2_with fail
              go_ret
              first | exact ⟨rfl, below_on hb hb3⟩ | exact ⟨by simp [go_sem] <;> omega, below_on hb hb3⟩
          · rw [hl] at hwv
            have HQ : Hid (((wnV d 1 s).1 ≤ c ∧ c < (wnV d 1 s).2) ↔ (150 ≤ g ∧ g ≤ 150 + 100)) := Lib.hid (by
              rw [hwv]
              split <;> simp only [] <;> omega)
            have hc := Lib.hid hc
            clear hwv hl hg
            generalize (wnV d 1 s).1 = x at *
            generalize (wnV d 1 s).2 = y at *
            have hc := hc.out
            have hcase : (x ≤ c ∧ c < y ∧ 150 ≤ g ∧ g ≤ 250) ∨ (c < x ∧ g < 150) ∨ (c < x ∧ 150 ≤ g ∧ 250 < g) ∨ (x ≤ c ∧ y ≤ c ∧ g < 150) ∨ (x ≤ c ∧ y ≤ c ∧ 150 ≤ g ∧ 250 < g) := by have := HQ.out; omega
            clear HQ
            rcases hcase with ⟨q1, q2, q3, q4⟩ | ⟨q1, q2⟩ | ⟨q1, q2, q3⟩ | ⟨q1, q2, q3⟩ | ⟨q1, q2, q3, q4⟩
            all_goals
              go_enter Try.func11, Try.ntmps11
              go_wp2_with fail
              obtain ⟨wB, hwB⟩ : ∃ wB, w.alloc (.cells #[.int .i64 d, .int .i64 1, .int .i64 s, .int .u16 mo] 55) = wB := ⟨_, rfl⟩
              have hb : Below w.heap.size w wB := by rw [← hwB]; exact (Below.refl _ _).alloc (Nat.le_refl _) _
              have p0 : wB.cell? ⟨w.heap.size, 0, none⟩ = some (.int .i64 d) := by rw [← hwB]; simp [go_sem]
              have p1 : wB.cell? ⟨w.heap.size, 1, none⟩ = some (.int .i64 1) := by rw [← hwB]; simp [go_sem]
              have p2 : wB.cell? ⟨w.heap.size, 2, none⟩ = some (.int .i64 s) := by rw [← hwB]; simp [go_sem]
              have p3 : wB.cell? ⟨w.heap.size, 3, none⟩ = some (.int .u16 mo) := by rw [← hwB]; simp [go_sem]
              rw [hwB]
              clear hwB
              go_quiet (fail)
              have hb := below_drewN hb nq
              generalize wB.drewN nq = wC at hb ⊢
              clear p0 p1 p2 p3
              go_wp2_with fail
              refine (HAh.out _).mono ?_
              rintro e w1 ⟨rfl, hb1⟩
              have hb := below_on hb hb1
              clear hb1
              go_wp2_with fail
              refine (HW.out _).mono ?_
              rintro e w2 ⟨rfl, hb2⟩
              have hb := below_on hb hb2
              clear hb2
              go_wp2_with fail
              have hb := below_al hb (.cells #[.int .i64 x, .int .i64 y] 35)
              refine (HA.out _).mono ?_
              rintro e w3 ⟨rfl, hb3⟩
              go_wp2_with fail
              go_ret
              first | exact ⟨rfl, below_on hb hb3⟩ | exact ⟨by simp [go_sem] <;> omega, below_on hb hb3⟩
          · rw [hl] at hwv
            have HQ : Hid (((wnV d 1 s).1 ≤ c ∧ c < (wnV d 1 s).2) ↔ (250 ≤ g ∧ g ≤ 250 + 100)) := Lib.hid (by
              rw [hwv]
              split <;> simp only [] <;> omega)
            have hc := Lib.hid hc
            clear hwv hl hg
            generalize (wnV d 1 s).1 = x at *
            generalize (wnV d 1 s).2 = y at *
            have hc := hc.out
            have hcase : (x ≤ c ∧ c < y ∧ 250 ≤ g ∧ g ≤ 350) ∨ (c < x ∧ g < 250) ∨ (c < x ∧ 250 ≤ g ∧ 350 < g) ∨ (x ≤ c ∧ y ≤ c ∧ g < 250) ∨ (x ≤ c ∧ y ≤ c ∧ 250 ≤ g ∧ 350 < g) := by have := HQ.out; omega
            clear HQ
            rcases hcase with ⟨q1, q2, q3, q4⟩ | ⟨q1, q2⟩ | ⟨q1, q2, q3⟩ | ⟨q1, q2, q3⟩ | ⟨q1, q2, q3, q4⟩
            all_goals
              go_enter Try.func11, Try.ntmps11
              go_wp2_with fail
              obtain ⟨wB, hwB⟩ : ∃ wB, w.alloc (.cells #[.int .i64 d, .int .i64 1, .int .i64 s, .int .u16 mo] 55) = wB := ⟨_, rfl⟩
              have hb : Below w.heap.size w wB := by rw [← hwB]; exact (Below.refl _ _).alloc (Nat.le_refl _) _
              have p0 : wB.cell? ⟨w.heap.size, 0, none⟩ = some (.int .i64 d) := by rw [← hwB]; simp [go_sem]
              have p1 : wB.cell? ⟨w.heap.size, 1, none⟩ = some (.int .i64 1) := by rw [← hwB]; simp [go_sem]
              have p2 : wB.cell? ⟨w.heap.size, 2, none⟩ = some (.int .i64 s) := by rw [← hwB]; simp [go_sem]
              have p3 : wB.cell? ⟨w.heap.size, 3, none⟩ = some (.int .u16 mo) := by rw [← hwB]; simp [go_sem]
              rw [hwB]
              clear hwB
              go_quiet (fail)
              have hb := below_drewN hb nq
              generalize wB.drewN nq = wC at hb ⊢
              clear p0 p1 p2 p3
              go_wp2_with fail
              refine (HAh.out _).mono ?_
              rintro e w1 ⟨rfl, hb1⟩
              have hb := below_on hb hb1
              clear hb1
              go_wp2_with fail
              refine (HW.out _).mono ?_
              rintro e w2 ⟨rfl, hb2⟩
              have hb := below_on hb hb2
              clear hb2
              go_wp2_with fail
              have hb := below_al hb (.cells #[.int .i64 x, .int .i64 y] 35)
              refine (HA.out _).mono ?_
              rintro e w3 ⟨rfl, hb3⟩
              go_wp2_with fail
              go_ret
              first | exact ⟨rfl, below_on hb hb3⟩ | exact ⟨by simp [go_sem] <;> omega, below_on hb hb3⟩

        · have HW := Lib.hid (fun W => Warn_f1 d s W (fun h => hss h.2))
          clear hss hcc hg
          go_enter Try.func11, Try.ntmps11
          go_wp2_with fail
          obtain ⟨wB, hwB⟩ : ∃ wB, w.alloc (.cells #[.int .i64 d, .int .i64 1, .int .i64 s, .int .u16 mo] 55) = wB := ⟨_, rfl⟩
          have hb : Below w.heap.size w wB := by rw [← hwB]; exact (Below.refl _ _).alloc (Nat.le_refl _) _
          have p0 : wB.cell? ⟨w.heap.size, 0, none⟩ = some (.int .i64 d) := by rw [← hwB]; simp [go_sem]
          have p1 : wB.cell? ⟨w.heap.size, 1, none⟩ = some (.int .i64 1) := by rw [← hwB]; simp [go_sem]
          have p2 : wB.cell? ⟨w.heap.size, 2, none⟩ = some (.int .i64 s) := by rw [← hwB]; simp [go_sem]
          have p3 : wB.cell? ⟨w.heap.size, 3, none⟩ = some (.int .u16 mo) := by rw [← hwB]; simp [go_sem]
          rw [hwB]
          clear hwB
          go_quiet (fail)
          have hb := below_drewN hb nq
          generalize wB.drewN nq = wC at hb ⊢
          clear p0 p1 p2 p3
          go_wp2_with fail
          refine (HAh.out _).mono ?_
          rintro e w1 ⟨rfl, hb1⟩
          have hb := below_on hb hb1
          clear hb1
          go_wp2_with fail
          refine (HW.out _).mono ?_
          rintro e w2 ⟨rfl, hb2⟩
          have hb := below_on hb hb2
          clear hb2
          go_wp2_with fail
          have hb := below_al hb (.cells #[.int .i64 0, .int .i64 0] 35)
          refine (HA.out _).mono ?_
          rintro e w3 ⟨rfl, hb3⟩
          go_wp2_with fail
          go_ret
          first | exact ⟨rfl, below_on hb hb3⟩ | exact ⟨by simp [go_sem] <;> omega, below_on hb hb3⟩

      · have HAh := Lib.hid (fun W => Ahead_upf c d W (fun h => hcc h.1))
        obtain ⟨x, y, E, hE, hW⟩ := warn_some d 1 s
        have HW := Lib.hid hW
        clear hW hcc
        rcases hE with rfl | rfl
        all_goals
          go_enter Try.func11, Try.ntmps11
          go_wp2_with fail
          obtain ⟨wB, hwB⟩ : ∃ wB, w.alloc (.cells #[.int .i64 d, .int .i64 1, .int .i64 s, .int .u16 mo] 55) = wB := ⟨_, rfl⟩
          have hb : Below w.heap.size w wB := by rw [← hwB]; exact (Below.refl _ _).alloc (Nat.le_refl _) _
          have p0 : wB.cell? ⟨w.heap.size, 0, none⟩ = some (.int .i64 d) := by rw [← hwB]; simp [go_sem]
          have p1 : wB.cell? ⟨w.heap.size, 1, none⟩ = some (.int .i64 1) := by rw [← hwB]; simp [go_sem]
          have p2 : wB.cell? ⟨w.heap.size, 2, none⟩ = some (.int .i64 s) := by rw [← hwB]; simp [go_sem]
          have p3 : wB.cell? ⟨w.heap.size, 3, none⟩ = some (.int .u16 mo) := by rw [← hwB]; simp [go_sem]
          rw [hwB]
          clear hwB
          go_quiet (fail)
          have hb := below_drewN hb nq
          generalize wB.drewN nq = wC at hb ⊢
          clear p0 p1 p2 p3
          go_wp2_with fail
          refine (HAh.out _).mono ?_
          rintro e w1 ⟨rfl, hb1⟩
          have hb := below_on hb hb1
          clear hb1
          go_wp2_with fail
          refine (HW.out _).mono ?_
          rintro e w2 ⟨rfl, hb2⟩
          have hb := below_on hb hb2
          clear hb2
          go_wp2_with fail
          have hb := below_al hb (.cells #[.int .i64 x, .int .i64 y] 35)
          refine (HA.out _).mono ?_
          rintro e w3 ⟨rfl, hb3⟩
          go_wp2_with fail
          go_ret
          first | exact ⟨rfl, below_on hb hb3⟩ | exact ⟨by simp [go_sem] <;> omega, below_on hb hb3⟩

    · have HAh := Lib.hid (fun W x => Ahead_upf x d W (fun h => hdd h.2))
      obtain ⟨x, y, E, hE, hW⟩ := warn_some d 1 s
      have HW := Lib.hid hW
      clear hW hdd hd hk hs
      rcases hE with rfl | rfl
      all_goals
        go_enter Try.func11, Try.ntmps11
        go_wp2_with fail
        obtain ⟨wB, hwB⟩ : ∃ wB, w.alloc (.cells #[.int .i64 d, .int .i64 1, .int .i64 s, .int .u16 mo] 55) = wB := ⟨_, rfl⟩
        have hb : Below w.heap.size w wB := by rw [← hwB]; exact (Below.refl _ _).alloc (Nat.le_refl _) _
        have p0 : wB.cell? ⟨w.heap.size, 0, none⟩ = some (.int .i64 d) := by rw [← hwB]; simp [go_sem]
        have p1 : wB.cell? ⟨w.heap.size, 1, none⟩ = some (.int .i64 1) := by rw [← hwB]; simp [go_sem]
        have p2 : wB.cell? ⟨w.heap.size, 2, none⟩ = some (.int .i64 s) := by rw [← hwB]; simp [go_sem]
        have p3 : wB.cell? ⟨w.heap.size, 3, none⟩ = some (.int .u16 mo) := by rw [← hwB]; simp [go_sem]
        rw [hwB]
        clear hwB
        go_quiet (fail)
        have hb := below_drewN hb nq
        generalize wB.drewN nq = wC at hb ⊢
        clear p0 p1 p2 p3
        go_wp2_with fail
        refine (HAh.out _ _).mono ?_
        rintro e w1 ⟨rfl, hb1⟩
        have hb := below_on hb hb1
        clear hb1
        go_wp2_with fail
        refine (HW.out _).mono ?_
        rintro e w2 ⟨rfl, hb2⟩
        have hb := below_on hb hb2
        clear hb2
        go_wp2_with fail
        have hb := below_al hb (.cells #[.int .i64 x, .int .i64 y] 35)
        refine (HA.out _).mono ?_
        rintro e w3 ⟨rfl, hb3⟩
        go_wp2_with fail
        go_ret
        first | exact ⟨rfl, below_on hb hb3⟩ | exact ⟨by simp [go_sem] <;> omega, below_on hb hb3⟩

  · by_cases h1m : k = -1
    · have h1 := h1m
      subst h1
      by_cases hdd : 0 ≤ d ∧ d ≤ 10000000
      · obtain ⟨d0, d1⟩ := hdd
        obtain ⟨m, hmm⟩ : ∃ m, mo % 600 = m := ⟨_, rfl⟩
        rw [hmm] at hr0 hr1
        obtain ⟨c, hc⟩ : ∃ c, d + m + -100 = c := ⟨_, rfl⟩
        clear hd hk hs
        by_cases hcc : 0 ≤ c ∧ c ≤ 10000000
        · obtain ⟨g, hg⟩ : ∃ g, -(d - c) = g := ⟨_, rfl⟩
          have HAh := Lib.hid (fun W => Ahead_dn c d W hcc ⟨d0, d1⟩)
          rw [hg] at HAh
          by_cases hss : 10 ≤ s ∧ s ≤ 200
          · have HW := Lib.hid (fun W => Warn_dn d s W ⟨d0, d1⟩ hss)
            have hwv : wnV d (-1) s = (d + lstV s, d + lstV s + 101) := by unfold wnV; rw [if_pos rfl]
            obtain ⟨c0, c1⟩ := hcc
            clear hss
            rcases lstV_c s with ⟨g1, hl⟩ | ⟨g1, g2, hl⟩ | ⟨g1, hl⟩
            · rw [hl] at hwv
              have HQ : Hid (((wnV d (-1) s).1 ≤ c ∧ c < (wnV d (-1) s).2) ↔ (50 ≤ g ∧ g ≤ 50 + 100)) := Lib.hid (by
                rw [hwv]
                simp only [] <;> omega)
              have hc := Lib.hid hc
              clear hwv hl hg
              generalize (wnV d (-1) s).1 = x at *
              generalize (wnV d (-1) s).2 = y at *
              have hc := hc.out
              have hcase : (x ≤ c ∧ c < y ∧ 50 ≤ g ∧ g ≤ 150) ∨ (c < x ∧ g < 50) ∨ (c < x ∧ 50 ≤ g ∧ 150 < g) ∨ (x ≤ c ∧ y ≤ c ∧ g < 50) ∨ (x ≤ c ∧ y ≤ c ∧ 50 ≤ g ∧ 150 < g) := by have := HQ.out; omega
              clear HQ
              rcases hcase with ⟨q1, q2, q3, q4⟩ | ⟨q1, q2⟩ | ⟨q1, q2, q3⟩ | ⟨q1, q2, q3⟩ | ⟨q1, q2, q3, q4⟩
              all_goals
                go_enter Try.func11, Try.ntmps11
                go_wp2_with fail
                obtain ⟨wB, hwB⟩ : ∃ wB, w.alloc (.cells #[.int .i64 d, .int .i64 (-1), .int .i64 s, .int .u16 mo] 55) = wB := ⟨_, rfl⟩
                have hb : Below w.heap.size w wB := by rw [← hwB]; exact (Below.refl _ _).alloc (Nat.le_refl _) _
                have p0 : wB.cell? ⟨w.heap.size, 0, none⟩ = some (.int .i64 d) := by rw [← hwB]; simp [go_sem]
                have p1 : wB.cell? ⟨w.heap.size, 1, none⟩ = some (.int .i64 (-1)) := by rw [← hwB]; simp [go_sem]
                have p2 : wB.cell? ⟨w.heap.size, 2, none⟩ = some (.int .i64 s) := by rw [← hwB]; simp [go_sem]
                have p3 : wB.cell? ⟨w.heap.size, 3, none⟩ = some (.int .u16 mo) := by rw [← hwB]; simp [go_sem]
                rw [hwB]
                clear hwB
                go_quiet (fail)
                have hb := below_drewN hb nq
                generalize wB.drewN nq = wC at hb ⊢
                clear p0 p1 p2 p3
                go_wp2_with fail
                refine (HAh.out _).mono ?_
                rintro e w1 ⟨rfl, hb1⟩
                have hb := below_on hb hb1
                clear hb1
                go_wp2_with fail
                refine (HW.out _).mono ?_
                rintro e w2 ⟨rfl, hb2⟩
                have hb := below_on hb hb2
                clear hb2
                go_wp2_with fail
                have hb := below_al hb (.cells #[.int .i64 x, .int .i64 y] 35)
                refine (HA.out _).mono ?_
                rintro e w3 ⟨rfl, hb3⟩
                go_wp2_with fail
                go_ret
                first | exact ⟨rfl, below_on hb hb3⟩ | exact ⟨by simp [go_sem] <;> omega, below_on hb hb3⟩
            · rw [hl] at hwv
              have HQ : Hid (((wnV d (-1) s).1 ≤ c ∧ c < (wnV d (-1) s).2) ↔ (150 ≤ g ∧ g ≤ 150 + 100)) := Lib.hid (by
                rw [hwv]
                simp only [] <;> omega)
              have hc := Lib.hid hc
              clear hwv hl hg
              generalize (wnV d (-1) s).1 = x at *
              generalize (wnV d (-1) s).2 = y at *
              have hc := hc.out
              have hcase : (x ≤ c ∧ c < y ∧ 150 ≤ g ∧ g ≤ 250) ∨ (c < x ∧ g < 150) ∨ (c < x ∧ 150 ≤ g ∧ 250 < g) ∨ (x ≤ c ∧ y ≤ c ∧ g < 150) ∨ (x ≤ c ∧ y ≤ c ∧ 150 ≤ g ∧ 250 < g) := by have := HQ.out; omega
              clear HQ
              rcases hcase with ⟨q1, q2, q3, q4⟩ | ⟨q1, q2⟩ | ⟨q1, q2, q3⟩ | ⟨q1, q2, q3⟩ | ⟨q1, q2, q3, q4⟩
              all_goals
                go_enter Try.func11, Try.ntmps11
                go_wp2_with fail
                obtain ⟨wB, hwB⟩ : ∃ wB, w.alloc (.cells #[.int .i64 d, .int .i64 (-1), .int .i64 s, .int .u16 mo] 55) = wB := ⟨_, rfl⟩
                have hb : Below w.heap.size w wB := by rw [← hwB]; exact (Below.refl _ _).alloc (Nat.le_refl _) _
                have p0 : wB.cell? ⟨w.heap.size, 0, none⟩ = some (.int .i64 d) := by rw [← hwB]; simp [go_sem]
                have p1 : wB.cell? ⟨w.heap.size, 1, none⟩ = some (.int .i64 (-1)) := by rw [← hwB]; simp [go_sem]
                have p2 : wB.cell? ⟨w.heap.size, 2, none⟩ = some (.int .i64 s) := by rw [← hwB]; simp [go_sem]
                have p3 : wB.cell? ⟨w.heap.size, 3, none⟩ = some (.int .u16 mo) := by rw [← hwB]; simp [go_sem]
                rw [hwB]
                clear hwB
                go_quiet (fail)
                have hb := below_drewN hb nq
                generalize wB.drewN nq = wC at hb ⊢
                clear p0 p1 p2 p3
                go_wp2_with fail
                refine (HAh.out _).mono ?_
                rintro e w1 ⟨rfl, hb1⟩
                have hb := below_on hb hb1
                clear hb1
                go_wp2_with fail
                refine (HW.out _).mono ?_
                rintro e w2 ⟨rfl, hb2⟩
                have hb := below_on hb hb2
                clear hb2
                go_wp2_with fail
                have hb := below_al hb (.cells #[.int .i64 x, .int .i64 y] 35)
                refine (HA.out _).mono ?_
                rintro e w3 ⟨rfl, hb3⟩
                go_wp2_with fail
                go_ret
                first | exact ⟨rfl, below_on hb hb3⟩ | exact ⟨by simp [go_sem] <;> omega, below_on hb hb3⟩
            · rw [hl] at hwv
              have HQ : Hid (((wnV d (-1) s).1 ≤ c ∧ c < (wnV d (-1) s).2) ↔ (250 ≤ g ∧ g ≤ 250 + 100)) := Lib.hid (by
                rw [hwv]
                simp only [] <;> omega)
              have hc := Lib.hid hc
              clear hwv hl hg
              generalize (wnV d (-1) s).1 = x at *
              generalize (wnV d (-1) s).2 = y at *
              have hc := hc.out
              have hcase : (x ≤ c ∧ c < y ∧ 250 ≤ g ∧ g ≤ 350) ∨ (c < x ∧ g < 250) ∨ (c < x ∧ 250 ≤ g ∧ 350 < g) ∨ (x ≤ c ∧ y ≤ c ∧ g < 250) ∨ (x ≤ c ∧ y ≤ c ∧ 250 ≤ g ∧ 350 < g) := by have := HQ.out; omega
              clear HQ
              rcases hcase with ⟨q1, q2, q3, q4⟩ | ⟨q1, q2⟩ | ⟨q1, q2, q3⟩ | ⟨q1, q2, q3⟩ | ⟨q1, q2, q3, q4⟩
              all_goals
                go_enter Try.func11, Try.ntmps11
                go_wp2_with fail
                obtain ⟨wB, hwB⟩ : ∃ wB, w.alloc (.cells #[.int .i64 d, .int .i64 (-1), .int .i64 s, .int .u16 mo] 55) = wB := ⟨_, rfl⟩
                have hb : Below w.heap.size w wB := by rw [← hwB]; exact (Below.refl _ _).alloc (Nat.le_refl _) _
                have p0 : wB.cell? ⟨w.heap.size, 0, none⟩ = some (.int .i64 d) := by rw [← hwB]; simp [go_sem]
                have p1 : wB.cell? ⟨w.heap.size, 1, none⟩ = some (.int .i64 (-1)) := by rw [← hwB]; simp [go_sem]
                have p2 : wB.cell? ⟨w.heap.size, 2, none⟩ = some (.int .i64 s) := by rw [← hwB]; simp [go_sem]
                have p3 : wB.cell? ⟨w.heap.size, 3, none⟩ = some (.int .u16 mo) := by rw [← hwB]; simp [go_sem]
                rw [hwB]
                clear hwB
                go_quiet (fail)
                have hb := below_drewN hb nq
                generalize wB.drewN nq = wC at hb ⊢
                clear p0 p1 p2 p3
                go_wp2_with fail
                refine (HAh.out _).mono ?_
                rintro e w1 ⟨rfl, hb1⟩
                have hb := below_on hb hb1
                clear hb1
                go_wp2_with fail
                refine (HW.out _).mono ?_
                rintro e w2 ⟨rfl, hb2⟩
                have hb := below_on hb hb2
                clear hb2
                go_wp2_with fail
                have hb := below_al hb (.cells #[.int .i64 x, .int .i64 y] 35)
                refine (HA.out _).mono ?_
                rintro e w3 ⟨rfl, hb3⟩
                go_wp2_with fail
                go_ret
                first | exact ⟨rfl, below_on hb hb3⟩ | exact ⟨by simp [go_sem] <;> omega, below_on hb hb3⟩

          · have HW := Lib.hid (fun W => Warn_fm d s W (fun h => hss h.2))
            clear hss hcc hg
            go_enter Try.func11, Try.ntmps11
            go_wp2_with fail
            obtain ⟨wB, hwB⟩ : ∃ wB, w.alloc (.cells #[.int .i64 d, .int .i64 (-1), .int .i64 s, .int .u16 mo] 55) = wB := ⟨_, rfl⟩
            have hb : Below w.heap.size w wB := by rw [← hwB]; exact (Below.refl _ _).alloc (Nat.le_refl _) _
            have p0 : wB.cell? ⟨w.heap.size, 0, none⟩ = some (.int .i64 d) := by rw [← hwB]; simp [go_sem]
            have p1 : wB.cell? ⟨w.heap.size, 1, none⟩ = some (.int .i64 (-1)) := by rw [← hwB]; simp [go_sem]
            have p2 : wB.cell? ⟨w.heap.size, 2, none⟩ = some (.int .i64 s) := by rw [← hwB]; simp [go_sem]
            have p3 : wB.cell? ⟨w.heap.size, 3, none⟩ = some (.int .u16 mo) := by rw [← hwB]; simp [go_sem]
            rw [hwB]
            clear hwB
            go_quiet (fail)
            have hb := below_drewN hb nq
            generalize wB.drewN nq = wC at hb ⊢
            clear p0 p1 p2 p3
            go_wp2_with fail
            refine (HAh.out _).mono ?_
            rintro e w1 ⟨rfl, hb1⟩
            have hb := below_on hb hb1
            clear hb1
            go_wp2_with fail
            refine (HW.out _).mono ?_
            rintro e w2 ⟨rfl, hb2⟩
            have hb := below_on hb hb2
            clear hb2
            go_wp2_with fail
            have hb := below_al hb (.cells #[.int .i64 0, .int .i64 0] 35)
            refine (HA.out _).mono ?_
            rintro e w3 ⟨rfl, hb3⟩
            go_wp2_with fail
            go_ret
            first | exact ⟨rfl, below_on hb hb3⟩ | exact ⟨by simp [go_sem] <;> omega, below_on hb hb3⟩

        · have HAh := Lib.hid (fun W => Ahead_dnf c d W (fun h => hcc h.1))
          obtain ⟨x, y, E, hE, hW⟩ := warn_some d (-1) s
          have HW := Lib.hid hW
          clear hW hcc
          rcases hE with rfl | rfl
          all_goals
            go_enter Try.func11, Try.ntmps11
            go_wp2_with fail
            obtain ⟨wB, hwB⟩ : ∃ wB, w.alloc (.cells #[.int .i64 d, .int .i64 (-1), .int .i64 s, .int .u16 mo] 55) = wB := ⟨_, rfl⟩
            have hb : Below w.heap.size w wB := by rw [← hwB]; exact (Below.refl _ _).alloc (Nat.le_refl _) _
            have p0 : wB.cell? ⟨w.heap.size, 0, none⟩ = some (.int .i64 d) := by rw [← hwB]; simp [go_sem]
            have p1 : wB.cell? ⟨w.heap.size, 1, none⟩ = some (.int .i64 (-1)) := by rw [← hwB]; simp [go_sem]
            have p2 : wB.cell? ⟨w.heap.size, 2, none⟩ = some (.int .i64 s) := by rw [← hwB]; simp [go_sem]
            have p3 : wB.cell? ⟨w.heap.size, 3, none⟩ = some (.int .u16 mo) := by rw [← hwB]; simp [go_sem]
            rw [hwB]
            clear hwB
            go_quiet (fail)
            have hb := below_drewN hb nq
            generalize wB.drewN nq = wC at hb ⊢
            clear p0 p1 p2 p3
            go_wp2_with fail
            refine (HAh.out _).mono ?_
            rintro e w1 ⟨rfl, hb1⟩
            have hb := below_on hb hb1
            clear hb1
            go_wp2_with fail
            refine (HW.out _).mono ?_
            rintro e w2 ⟨rfl, hb2⟩
            have hb := below_on hb hb2
            clear hb2
            go_wp2_with fail
            have hb := below_al hb (.cells #[.int .i64 x, .int .i64 y] 35)
            refine (HA.out _).mono ?_
            rintro e w3 ⟨rfl, hb3⟩
            go_wp2_with fail
            go_ret
            first | exact ⟨rfl, below_on hb hb3⟩ | exact ⟨by simp [go_sem] <;> omega, below_on hb hb3⟩

      · have HAh := Lib.hid (fun W x => Ahead_dnf x d W (fun h => hdd h.2))
        obtain ⟨x, y, E, hE, hW⟩ := warn_some d (-1) s
        have HW := Lib.hid hW
        clear hW hdd hd hk hs
        rcases hE with rfl | rfl
        all_goals
          go_enter Try.func11, Try.ntmps11
          go_wp2_with fail
          obtain ⟨wB, hwB⟩ : ∃ wB, w.alloc (.cells #[.int .i64 d, .int .i64 (-1), .int .i64 s, .int .u16 mo] 55) = wB := ⟨_, rfl⟩
          have hb : Below w.heap.size w wB := by rw [← hwB]; exact (Below.refl _ _).alloc (Nat.le_refl _) _
          have p0 : wB.cell? ⟨w.heap.size, 0, none⟩ = some (.int .i64 d) := by rw [← hwB]; simp [go_sem]
          have p1 : wB.cell? ⟨w.heap.size, 1, none⟩ = some (.int .i64 (-1)) := by rw [← hwB]; simp [go_sem]
          have p2 : wB.cell? ⟨w.heap.size, 2, none⟩ = some (.int .i64 s) := by rw [← hwB]; simp [go_sem]
          have p3 : wB.cell? ⟨w.heap.size, 3, none⟩ = some (.int .u16 mo) := by rw [← hwB]; simp [go_sem]
          rw [hwB]
          clear hwB
          go_quiet (fail)
          have hb := below_drewN hb nq
          generalize wB.drewN nq = wC at hb ⊢
          clear p0 p1 p2 p3
          go_wp2_with fail
          refine (HAh.out _ _).mono ?_
          rintro e w1 ⟨rfl, hb1⟩
          have hb := below_on hb hb1
          clear hb1
          go_wp2_with fail
          refine (HW.out _).mono ?_
          rintro e w2 ⟨rfl, hb2⟩
          have hb := below_on hb hb2
          clear hb2
          go_wp2_with fail
          have hb := below_al hb (.cells #[.int .i64 x, .int .i64 y] 35)
          refine (HA.out _).mono ?_
          rintro e w3 ⟨rfl, hb3⟩
          go_wp2_with fail
          go_ret
          first | exact ⟨rfl, below_on hb hb3⟩ | exact ⟨by simp [go_sem] <;> omega, below_on hb hb3⟩

    · have h2 := h1m
      have HAh := Lib.hid (fun W x => Ahead_no k x d W h1 h2)
      obtain ⟨x, y, E, hE, hW⟩ := warn_some d k s
      have HW := Lib.hid hW
      clear hW h1 h2 hd hk hs
      rcases hE with rfl | rfl
      all_goals
        go_enter Try.func11, Try.ntmps11
        go_wp2_with fail
        obtain ⟨wB, hwB⟩ : ∃ wB, w.alloc (.cells #[.int .i64 d, .int .i64 k, .int .i64 s, .int .u16 mo] 55) = wB := ⟨_, rfl⟩
        have hb : Below w.heap.size w wB := by rw [← hwB]; exact (Below.refl _ _).alloc (Nat.le_refl _) _
        have p0 : wB.cell? ⟨w.heap.size, 0, none⟩ = some (.int .i64 d) := by rw [← hwB]; simp [go_sem]
        have p1 : wB.cell? ⟨w.heap.size, 1, none⟩ = some (.int .i64 k) := by rw [← hwB]; simp [go_sem]
        have p2 : wB.cell? ⟨w.heap.size, 2, none⟩ = some (.int .i64 s) := by rw [← hwB]; simp [go_sem]
        have p3 : wB.cell? ⟨w.heap.size, 3, none⟩ = some (.int .u16 mo) := by rw [← hwB]; simp [go_sem]
        rw [hwB]
        clear hwB
        go_quiet (fail)
        have hb := below_drewN hb nq
        generalize wB.drewN nq = wC at hb ⊢
        clear p0 p1 p2 p3
        go_wp2_with fail
        refine (HAh.out _ _).mono ?_
        rintro e w1 ⟨rfl, hb1⟩
        have hb := below_on hb hb1
        clear hb1
        go_wp2_with fail
        refine (HW.out _).mono ?_
        rintro e w2 ⟨rfl, hb2⟩
        have hb := below_on hb hb2
        clear hb2
        go_wp2_with fail
        have hb := below_al hb (.cells #[.int .i64 x, .int .i64 y] 35)
        refine (HA.out _).mono ?_
        rintro e w3 ⟨rfl, hb3⟩
        go_wp2_with fail
        go_ret
        first | exact ⟨rfl, below_on hb hb3⟩ | exact ⟨by simp [go_sem] <;> omega, below_on hb hb3⟩

end Go.Proofs.Ytacmeadmmjehmaa
