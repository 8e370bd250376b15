/-
  choices of package night. By an AI agent.; append of a slice that has no elements, whatever its address and its capacity: the slice stays. By an AI agent.; Library functions laid at this program, in plain words. By an AI agent.; slices.Clone of ints; replaced and done of package night. By an AI agent.
-/
import Derived.Test.YtghlhjiomebmhaaMgNightRight3
import Derived.Test.YtghlhjiomebmhaaMgNightRight4
import Derived.Deep.RegionHeld3
import Derived.Deep.AppendLies
import Derived.BigQuiet
import Derived.StillTailTactics
import Derived.Laws.AppendOwnNone
import Derived.Shelf.SlicesE.Clone
import Derived.Ground.SlgnProg
import Derived.Test.YtghlhjiomebmhaaProg

namespace Go.Proofs.Ytghlhjiomebmhaa
set_option linter.unusedVariables false
set_option linter.unusedSimpArgs false
open Go.RowKit

set_option maxRecDepth 100000 in
set_option maxHeartbeats 1000000 in
theorem ch1_r (j : Jo) (ns : List Ni) (b : Option Addr) (cb Bj Bn k : Nat) (hk : k < ns.length) (w : World) (hN : NightsS w b ns) (p0 : w.cell? ⟨Bj, 0, none⟩ = some (.int .i64 j.n)) (p1 : w.cell? ⟨Bj, 1, none⟩ = some (.int .i64 j.r)) (p2 : w.cell? ⟨Bj, 2, none⟩ = some (.int .i64 j.c)) (p3 : w.cell? ⟨Bj, 3, none⟩ = some (.int .i64 j.f)) (p4 : w.cell? ⟨Bj, 4, none⟩ = some (.int .i64 j.l)) (p5 : w.cell? ⟨Bj, 5, none⟩ = some (.int .i64 j.w)) (p6 : w.cell? ⟨Bj, 6, none⟩ = some (.bool j.dy)) (p7 : w.cell? ⟨Bj, 7, none⟩ = some (.bool j.wm)) (pn : w.cell? ⟨Bn, 0, none⟩ = some (.slice b ns.length cb)) :
    Calls Try.prog 74 (#[.int .i64 k] ++ #[.pointer (some ⟨Bj, 0, none⟩), .pointer (some ⟨Bn, 0, none⟩)]) w fun e w' => e = .returned (.bool (fitB j (gn ns k))) ∧ Below w.heap.size w w' := by
  obtain ⟨hlen, blk, off, hadr, hc⟩ := hN
  obtain rfl := hadr (pos_ne (n := 0) hk)
  obtain ⟨c0, c1, c2, c3, c4, c5, c6, c7⟩ := hc k hk
  clear hc hadr
  generalize gn ns k = s at *
  have HF := Lib.hid (fun W => fits_r j s W)
  have hk1 : decide ((0 : Int) ≤ k) = true := decide_eq_true (by omega)
  have hk2 : decide ((k : Int) < ns.length) = true := decide_eq_true (by omega)
  go_enter Try.func74, Try.ntmps74
  go_wp2_with fail
  go_still_tail 5, (by kernel_rfl)
  change wpList _ _ _ _ _ w.drew
  have hb := (Below.refl w.heap.size w).drew
  generalize w.drew = wq at hb ⊢
  go_wp2_with fail
  refine (HF.out _).mono ?_
  rintro e w1 ⟨rfl, hb1⟩
  go_wp2_with fail
  go_ret
  exact ⟨rfl, below_onN hb hb1 hb.size⟩
set_option maxRecDepth 100000 in
set_option maxHeartbeats 2000000 in
theorem indexes_ch (n : Nat) (hn : n ≤ 100000) (lb : Array Value) (p : Nat → Bool) (w : World)
    (hp : ∀ j W, j < n → Below w.heap.size w W → Calls Try.prog 74 (#[.int .i64 j] ++ lb) W fun e w' => e = .returned (.bool (p j)) ∧ Below W.heap.size W w') :
    Calls Try.prog 36 #[.int .i64 n, .func (.func 74) #[] lb] w fun e w' => IdxE w (selK p n) e w' := by
  have HP := Lib.hid hp
  have HS : Hid (∀ k, selK p (k + 1) = if p k = true then selK p k ++ [(k : Int)] else selK p k) := Lib.hid fun k => rfl
  have HN : Hid (∀ k, (selK p k).length ≤ k) := Lib.hid (selK_len p)
  have H0 : Hid (selK p 0 = []) := Lib.hid rfl
  clear hp
  go_enter Try.func36, Try.ntmps36
  go_wp2_with fail
  go_loopw [5, 8] (fun v i wr => ∃ k : Nat, k ≤ n ∧ i = .int .i64 k ∧ (∃ a c, v = .slice a (selK p k).length c) ∧ Hid (wr.ownsRow w.heap.size 3 1 v (selK p k).length (clI (selK p k))) ∧ Below w.heap.size w wr) (fun _ i _ => n - (intOf i).toNat)
  case atStart => exact ⟨0, Nat.zero_le _, rfl, ⟨none, 0, by rw [H0.out]; rfl⟩, Lib.hid (by rw [H0.out]; exact ⟨rfl, .inl ⟨rfl, rfl⟩⟩), Below.refl _ _⟩
  case round =>
    obtain ⟨k, hk, rfl, ⟨av, cv, rfl⟩, HRow, hb⟩ := hrel
    by_cases hlt : k < n
    · have HK := Lib.hid (fun W hW => HP.out k W hlt hW)
      have HSk := Lib.hid (HS.out k)
      have hNk := HN.out k
      clear HP HS H0 HN
      cases hpk : p k with
      | false =>
        rw [hpk] at HK HSk
        have HS1 : Hid (selK p (k + 1) = selK p k) := Lib.hid (HSk.out.trans (if_neg (by decide)))
        clear hpk HSk
        generalize hX : selK p k = X at *
        clear hX
        go_wp2_with fail
        refine (HK.out _ hb).mono ?_
        rintro e w1 ⟨rfl, hb1⟩
        have HRow := Lib.hid (owns_belowI HRow.out hb1)
        have hb := below_onN hb hb1 hb.size
        clear hb1
        go_wp2_with fail
        go_roundw
        case rel => exact ⟨k + 1, by omega, by go_num, ⟨av, cv, by rw [HS1.out]⟩, by rw [HS1.out]; exact HRow, hb⟩
        case measure => simp [intOf]; omega
      | true =>
        rw [hpk] at HK HSk
        have HS1 : Hid (selK p (k + 1) = selK p k ++ [(k : Int)]) := Lib.hid (HSk.out.trans (if_pos rfl))
        clear hpk HSk
        generalize hX : selK p k = X at *
        clear hX
        go_wp2_with fail
        refine (HK.out _ hb).mono ?_
        rintro e w1 ⟨rfl, hb1⟩
        have HRow := Lib.hid (owns_belowI HRow.out hb1)
        have hb := below_onN hb hb1 hb.size
        have hbs := hb.size
        clear hb1 HK
        obtain ⟨m, hm⟩ : ∃ m, X.length = m := ⟨_, rfl⟩
        have HM := Lib.hid hm
        rw [hm] at HRow hNk
        rw [hm]
        clear hm
        have hown := Lib.hid (HRow.out.alloc (.cells #[.int .i64 k] 3))
        go_wp2_with (first | (at_builtin; go_loud (refine app_int rfl _ _ rfl w.heap.size m cv av _ rfl hown.out w1.heap.size (.int .i64 k) rfl ?d1 (by rfl) (by omega) ?d2 ?_)))
        case d1 => simp [go_sem]
        case d2 => first | (simp; omega) | omega
        intro g6 c6 w6 hown6 hb6
        have hb6 : Below w.heap.size w w6 := (hb.alloc hbs _).trans hb6
        have hrow6 : Hid (w6.ownsRow w.heap.size 3 1 (.slice (some ⟨g6, 0, none⟩) (m + 1) c6) (m + 1) (clI (X ++ [(k : Int)]))) := Lib.hid (by rw [clI_app]; exact hown6)
        clear hown6 hown HRow
        go_wp2_with fail
        go_roundw
        case rel => exact ⟨k + 1, by omega, by go_num, ⟨_, c6, by rw [HS1.out, List.length_append, HM.out]; rfl⟩, by rw [HS1.out, List.length_append, HM.out]; exact hrow6, hb6⟩
        case measure => simp [intOf]; omega
    · obtain rfl : k = n := by omega
      clear HP HS HN H0
      go_wp2_with fail
      go_ret
      exact ⟨av, cv, rfl, HRow.out, hb⟩
/-- The nights that a job fits. -/
def rowF (ns : List Ni) (j : Jo) : List Int := selK (fun k => fitB j (gn ns k)) ns.length
/-- The nights that each job fits. -/
def chL (js : List Jo) (ns : List Ni) : List (List Int) := js.map (rowF ns)
theorem gr_chL (js : List Jo) (ns : List Ni) {i : Nat} (hi : i < js.length) : gr (chL js ns) i = rowF ns (gj js i) := by
  unfold gr chL gj; simp [hi]
/-- Those that are such, each an index. -/
theorem selK_mem (p : Nat → Bool) : ∀ k x, x ∈ selK p k → ∃ m : Nat, x = m ∧ m < k ∧ p m = true
  | 0, x, h => by simp [selK] at h
  | k + 1, x, h => by
    unfold selK at h
    split at h
    · next hp =>
      rw [List.mem_append] at h
      rcases h with h | h
      · obtain ⟨m, h1, h2, h3⟩ := selK_mem p k x h; exact ⟨m, h1, by omega, h3⟩
      · simp at h; exact ⟨k, h, by omega, hp⟩
    · obtain ⟨m, h1, h2, h3⟩ := selK_mem p k x h; exact ⟨m, h1, by omega, h3⟩
theorem selK_gi (p : Nat → Bool) (n : Nat) {j : Nat} (hj : j < (selK p n).length) : ∃ m : Nat, gi (selK p n) j = m ∧ m < n ∧ p m = true := by
  refine selK_mem p n _ ?_
  unfold gi
  rw [List.getD_eq_getElem?_getD, List.getElem?_eq_getElem hj, Option.getD_some]
  exact List.getElem_mem hj
/-- The lists of nights come back. -/
def ChE (w : World) (C : List (List Int)) (e : Ending) (w' : World) : Prop := ∃ a c, e = .returned (.slice a C.length c) ∧ (∀ w2, (∀ k, w.heap.size ≤ k → k < w'.heap.size → w2.heap[k]? = w'.heap[k]?) → RowsS w2 a C) ∧ Below w.heap.size w w'
set_option maxRecDepth 100000 in
set_option maxHeartbeats 4000000 in
theorem choices_r (a : Option Addr) (js : List Jo) (ca : Nat) (b : Option Addr) (ns : List Ni) (cb : Nat) (w : World) (hA : JobsS w a js) (hB : NightsS w b ns) (hj : js.length ≤ 1000) (hn : ns.length ≤ 1000) :
    Calls Try.prog 62 #[.slice a js.length ca, .slice b ns.length cb] w fun e w' => ChE w (chL js ns) e w' := by
  have HI := Lib.hid (fun (W : World) (j : Jo) (Bj Bn : Nat) (hN : NightsS W b ns) (q0 : W.cell? ⟨Bj, 0, none⟩ = some (.int .i64 j.n)) (q1 : W.cell? ⟨Bj, 1, none⟩ = some (.int .i64 j.r)) (q2 : W.cell? ⟨Bj, 2, none⟩ = some (.int .i64 j.c)) (q3 : W.cell? ⟨Bj, 3, none⟩ = some (.int .i64 j.f)) (q4 : W.cell? ⟨Bj, 4, none⟩ = some (.int .i64 j.l)) (q5 : W.cell? ⟨Bj, 5, none⟩ = some (.int .i64 j.w)) (q6 : W.cell? ⟨Bj, 6, none⟩ = some (.bool j.dy)) (q7 : W.cell? ⟨Bj, 7, none⟩ = some (.bool j.wm)) (qn : W.cell? ⟨Bn, 0, none⟩ = some (.slice b ns.length cb)) =>
    indexes_ch ns.length (by omega) #[.pointer (some ⟨Bj, 0, none⟩), .pointer (some ⟨Bn, 0, none⟩)] (fun k => fitB j (gn ns k)) W (fun k W' hk hW => ch1_r j ns b cb Bj Bn k hk W' (hN.below hW) (cell_below q0 hW) (cell_below q1 hW) (cell_below q2 hW) (cell_below q3 hW) (cell_below q4 hW) (cell_below q5 hW) (cell_below q6 hW) (cell_below q7 hW) (cell_below qn hW)))
  obtain ⟨hlen, blk, off, hadr, hc⟩ := hA
  have HC := Lib.hid hc
  have HL : Hid (0 < js.length → a = some ⟨blk, off, none⟩) := Lib.hid fun h => hadr (pos_ne (n := 0) h)
  have HG : Hid (∀ (W : World) (av : Option Addr) (cv : Nat), GrowR (w.heap.size + 1) W (.slice av js.length cv) js.length (fun i => rowF ns (gj js i)) → ∀ w2, (∀ k, w.heap.size ≤ k → k < W.heap.size → w2.heap[k]? = W.heap[k]?) → RowsS w2 av (chL js ns)) := Lib.hid fun W av cv h w2 hs => h.rows (chL js ns) (by simp [chL]) (fun i hi => gr_chL js ns hi) (by omega) (fun i hi => ⟨by have := selK_len (fun k => fitB (gj js i) (gn ns k)) ns.length; unfold rowF; omega, fun m hm => by
    obtain ⟨q, e, hq, _⟩ := selK_gi _ _ hm
    unfold rowF
    rw [e]
    exact ⟨by omega, by omega⟩⟩) (fun k hk => hs k (by omega))
  have HCL : Hid ((chL js ns).length = js.length) := Lib.hid (by simp [chL])
  have hnl := hB.1
  have HRW : Hid (∀ i, rowF ns (gj js i) = selK (fun k => fitB (gj js i) (gn ns k)) ns.length) := Lib.hid fun i => rfl
  clear hc hadr
  have hBH := Lib.hid hB
  clear hB
  obtain ⟨wB, hwB⟩ : ∃ wB, w.alloc (.cells #[.slice b ns.length cb] 23) = wB := ⟨_, rfl⟩
  have hbB : Below w.heap.size w wB := by rw [← hwB]; exact (Below.refl _ _).alloc (Nat.le_refl _) _
  have pn : wB.cell? ⟨w.heap.size, 0, none⟩ = some (.slice b ns.length cb) := by rw [← hwB]; simp [go_sem]
  go_enter Try.func62, Try.ntmps62
  go_wp2_with fail
  go_loopw [5, 10] (fun v i wr => ∃ k : Nat, k ≤ js.length ∧ i = .int .i64 k ∧ (∃ av cv, v = .slice av k cv) ∧ Hid (GrowR (w.heap.size + 1) wr v k (fun i => rowF ns (gj js i))) ∧ Hid (Below w.heap.size w wr) ∧ wr.cell? ⟨w.heap.size, 0, none⟩ = some (.slice b ns.length cb)) (fun _ i _ => js.length - (intOf i).toNat)
  case atStart => exact ⟨0, Nat.zero_le _, rfl, ⟨none, 0, rfl⟩, Lib.hid (GrowR.nil _ _ _), Lib.hid hbB, pn⟩
  case round =>
    obtain ⟨k, hk, rfl, ⟨av, cv, rfl⟩, HR, hb, pn⟩ := hrel
    clear hwB hbB
    by_cases hlt : k < js.length
    · obtain rfl := HL.out (by omega)
      obtain ⟨c0, c1, c2, c3, c4, c5, c6, c7⟩ := HC.out k hlt
      have c0 := cell_below c0 hb.out
      have c1 := cell_below c1 hb.out
      have c2 := cell_below c2 hb.out
      have c3 := cell_below c3 hb.out
      have c4 := cell_below c4 hb.out
      have c5 := cell_below c5 hb.out
      have c6 := cell_below c6 hb.out
      have c7 := cell_below c7 hb.out
      have HRk := Lib.hid (HRW.out k)
      clear HC HL HG HRW HCL
      have hk9 : Hid ((fun i => rowF ns (gj js i)) k = rowF ns (gj js k)) := Lib.hid rfl
      generalize hROWS : (fun i => rowF ns (gj js i)) = rows at *
      have hROWS := Lib.hid hROWS
      generalize gj js k = j at *
      generalize rowF ns j = row at *
      obtain ⟨wC, hwC⟩ : ∃ wC, wr.alloc (.cells #[.int .i64 j.n, .int .i64 j.r, .int .i64 j.c, .int .i64 j.f, .int .i64 j.l, .int .i64 j.w, .bool j.dy, .bool j.wm] 43) = wC := ⟨_, rfl⟩
      have hbC : Below wr.heap.size wr wC := by rw [← hwC]; exact (Below.refl _ _).alloc (Nat.le_refl _) _
      have p0 : wC.cell? ⟨wr.heap.size, 0, none⟩ = some (.int .i64 j.n) := by rw [← hwC]; simp [go_sem]
      have p1 : wC.cell? ⟨wr.heap.size, 1, none⟩ = some (.int .i64 j.r) := by rw [← hwC]; simp [go_sem]
      have p2 : wC.cell? ⟨wr.heap.size, 2, none⟩ = some (.int .i64 j.c) := by rw [← hwC]; simp [go_sem]
      have p3 : wC.cell? ⟨wr.heap.size, 3, none⟩ = some (.int .i64 j.f) := by rw [← hwC]; simp [go_sem]
      have p4 : wC.cell? ⟨wr.heap.size, 4, none⟩ = some (.int .i64 j.l) := by rw [← hwC]; simp [go_sem]
      have p5 : wC.cell? ⟨wr.heap.size, 5, none⟩ = some (.int .i64 j.w) := by rw [← hwC]; simp [go_sem]
      have p6 : wC.cell? ⟨wr.heap.size, 6, none⟩ = some (.bool j.dy) := by rw [← hwC]; simp [go_sem]
      have p7 : wC.cell? ⟨wr.heap.size, 7, none⟩ = some (.bool j.wm) := by rw [← hwC]; simp [go_sem]
      have pn := cell_below pn hbC
      have hzC : w.heap.size + 1 ≤ wC.heap.size := block_lt pn
      have HR := Lib.hid (HR.out.below hbC)
      have hb := Lib.hid (below_onN hb.out hbC hb.out.size)
      have hNC := hBH.out.below hb.out
      have HIk := Lib.hid (HI.out wC j wr.heap.size w.heap.size hNC p0 p1 p2 p3 p4 p5 p6 p7 pn)
      rw [← HRk.out] at HIk
      clear hNC HI p0 p1 p2 p3 p4 p5 p6 p7 HRk
      go_wp2_with fail
      refine HIk.out.mono ?_
      rintro e w1 ⟨a1, c1x, rfl, hrow, hb1⟩
      have hav : Hid (RowAt (w.heap.size + 1) w1 a1 row (Value.slice av k cv).ownBlock ∧ row.length ≤ c1x) := Lib.hid ⟨(rowAt_own hrow (fun z hz => HR.out.owned z hz)).1.lower hzC, (rowAt_own hrow (fun z hz => HR.out.owned z hz)).2⟩
      have HR := Lib.hid ((HR.out.below hb1).alloc (.cells #[.slice a1 row.length c1x] 26))
      have hav : Hid (RowAt (w.heap.size + 1) (w1.alloc (.cells #[.slice a1 row.length c1x] 26)) a1 row (Value.slice av k cv).ownBlock ∧ row.length ≤ c1x) := Lib.hid ⟨hav.out.1.below ((Below.refl _ _).alloc (Nat.le_refl _) _), hav.out.2⟩
      have hbq := below_onN hb.out hb1 hb.out.size
      have hbs := hbq.size
      have pn := cell_below pn hb1
      have hzn := block_lt pn
      have hav2 : Hid (RowAt (w.heap.size + 1) (w1.alloc (.cells #[.slice a1 row.length c1x] 26)) a1 (rows k) (Value.slice av k cv).ownBlock ∧ (rows k).length ≤ c1x) := Lib.hid (by rw [hk9.out]; exact hav.out)
      have hcN : Hid ((w1.alloc (.cells #[.slice a1 row.length c1x] 26)).cell? ⟨w1.heap.size, 0, none⟩ = some (.slice a1 (rows k).length c1x)) := Lib.hid (by rw [hk9.out]; simp [go_sem])
      have hbN : Hid (Below (w.heap.size + 1) w1 (w1.alloc (.cells #[.slice a1 row.length c1x] 26))) := Lib.hid ((Below.refl _ _).alloc (by omega) _)
      have hn1 := HR.out
      clear hrow hb1 hav HIk hb
      go_wp2_with (first | (at_builtin; go_loud (refine app_row rfl _ _ rfl (w.heap.size + 1) k (.slice av k cv) rows rfl hn1 w1.heap.size a1 c1x rfl hcN.out hav2.out (by omega) ?d1 ?_)))
      case d1 => simp; omega
      intro g6 c6 w6 HG6 hb6
      have pn := (hb6.cell (p := ⟨w.heap.size, 0, none⟩) (by simp)).trans ((hbN.out.cell (p := ⟨w.heap.size, 0, none⟩) (by simp)).trans pn)
      have HG6 := Lib.hid HG6
      have hb6 := Lib.hid ((hbq.alloc hbs _).trans (hb6.mono (by simp)))
      clear hbN hn1 HR hav2 hcN
      go_wp2_with fail
      go_roundw
      case rel => exact ⟨k + 1, by omega, by go_num, ⟨_, c6, rfl⟩, HG6, hb6, pn⟩
      case measure => simp [intOf]; omega
    · obtain rfl : k = js.length := by omega
      have hR := Lib.hid (HG.out wr av cv HR.out)
      go_wp2_with fail
      go_ret
      exact ⟨av, cv, by rw [HCL.out]; rfl, hR.out, hb.out⟩
end Go.Proofs.Ytghlhjiomebmhaa

namespace Go.Proofs.Ytghlhjiomebmhaa
set_option linter.unusedVariables false
set_option linter.unusedSimpArgs false
open Go.RowKit
theorem loadNone (P : Program) (w : World) (a : Addr) : (loadCells a 0).run P w = .ok #[] w := rfl
theorem run_append_zero {P : Program} {w : World} (base : Nat) (t ty e : TypeId) (i : TypeInfo) (size : Nat) (ht : P.underlying t = some (.slice e)) (hi : P.info? e = some i)
    (v : Value) (n : Nat) (xs : List Value) (hown : w.ownsRow base e size v n xs) (ao : Option Addr) (c : Nat) :
    (Builtin.append_ #[t, t] ty #[v, .slice ao 0 c]).run P w = .ok v w := by
  rcases hown.2 with ⟨rfl, rfl⟩ | ⟨g, cap, cur, rfl, _, _, hnc, _⟩
  · cases ao <;> simp [Builtin.append_, run_underlying ht, sizeOf, typeInfo, hi, Builtin.lenOf, Builtin.firstCells, loadNone, Result.andThen]
  · cases ao <;> simp [Builtin.append_, run_underlying ht, sizeOf, typeInfo, hi, Builtin.lenOf, Builtin.firstCells, hnc, storeCells, loadNone, Result.andThen]
theorem wpList_append_zero {P : Program} {w : World} {ops : Array Oper} {rest : List Oper} {o : Oper} {a : Act} {Q : Exit → Act → World → Prop} (hgd : o.guard = none) (s x : Operand) (t : TypeId)
    (ho : o.op = .call { callee := .builtin .append, args := #[s, x], argTypes := #[t, t] })
    (base : Nat) (e : TypeId) (i : TypeInfo) (size : Nat) (ht : P.underlying t = some (.slice e)) (hi : P.info? e = some i)
    (v : Value) (n : Nat) (xs : List Value) (hs : a.eval s = v) (hown : w.ownsRow base e size v n xs) (ao : Option Addr) (c : Nat) (hx : a.eval x = .slice ao 0 c)
    (h : wpList P ops Q rest (a.put o.dst v) w) : wpList P ops Q (o :: rest) a w := by
  refine wpList_plain hgd fun K hK => ?_
  have hrun := run_append_zero (P := P) (w := w) base t o.type e i size ht hi v n xs hown ao c
  unfold Oper.wp
  simp [execOp, ho, resolve, invoke, builtin, hs, hx, hrun, Result.andThen]
  exact hK _ _ h
end Go.Proofs.Ytghlhjiomebmhaa

namespace Go.Proofs
open Go.Shelf
def Try.laysCloneI_ren : Go.Shelf.Ren := ⟨fun | 41 => 65 | n => n, fun | 22 => 26 | 23 => 3 | 4 => 4 | n => n, fun | n => n⟩
theorem Try.laysCloneI : Go.Proofs.SlLaysE0.n41 Try.prog Try.laysCloneI_ren := {
  mixed := by kernel_rfl
  f41 := ⟨Try.f65.name, by decide, Try.func65.trans (congrArg some (by kernel_rfl))⟩
  t4 := Try.underlying4
  a4 := Try.isAgg4
  z4 := Try.sizeOf4
  v4 := Try.zeroValue4
  t22 := Try.underlying26
  a22 := Try.isAgg26
  z22 := Try.sizeOf26
  v22 := Try.zeroValue26 }
end Go.Proofs

namespace Go.Proofs.Ytghlhjiomebmhaa
set_option linter.unusedVariables false
set_option linter.unusedSimpArgs false
open Go.RowKit Go.Shelf

set_option maxRecDepth 100000 in
theorem clone0_i (p : Addr) (c : Nat) (w : World) :
    Calls Try.prog 65 #[.slice (some p) 0 c] w fun e w' => e = .returned (.slice (some ⟨w.heap.size, 0, none⟩) 0 0) ∧ w'.ownsRow w.heap.size 3 1 (.slice (some ⟨w.heap.size, 0, none⟩) 0 0) 0 [] ∧ Below w.heap.size w w' := by
  obtain ⟨i0, hi, hz0, hz1, hz2⟩ := info_parts infoInt
  have q22 : ∀ (w : World) (a : Option Addr) (n c n' c' : Nat), (binOp .eql 26 (.slice a n c) (.slice none n' c')).run Try.prog w = .ok (.bool a.isNone) w := fun w a n c n' c' => Lib.run_eql_slice_nil w _ _ a n c n' c' Try.underlying26
  have hown : Hid ((w.alloc (.cells #[] 3)).ownsRow w.heap.size 3 1 (.slice (some ⟨w.heap.size, 0, none⟩) 0 0) 0 []) := Lib.hid (World.ownsRow_made w #[] 0 (Nat.le_refl _) (Nat.zero_le _) (by simp))
  go_enter Try.func65, Try.ntmps65
  go_wp2_with (first | (at_builtin; go_loud (refine wpList_append_zero rfl _ _ 26 (by rfl) w.heap.size 3 i0 1 Try.underlying26 hi (.slice (some ⟨w.heap.size, 0, none⟩) 0 0) 0 _ (by rfl) hown.out (some p) c (by rfl) ?_)))
  go_wp2_with fail
  go_ret
  exact ⟨rfl, hown.out, (Below.refl _ _).alloc (Nat.le_refl _) _⟩
theorem clI_one (l : List Int) : ∀ u ∈ clI l, u.oneCell' = true := by
  intro u hu
  simp [clI] at hu
  obtain ⟨x, _, rfl⟩ := hu
  rfl
/-- slices.Clone of ints. -/
theorem clone_i (a : Option Addr) (l : List Int) (c : Nat) (w : World) (hA : IntsC w a l) (hn : l.length ≤ 100000000) :
    Calls Try.prog 65 #[.slice a l.length c] w fun e w' => ∃ b c', e = .returned (.slice b l.length c') ∧ w'.ownsRow w.heap.size 3 1 (.slice b l.length c') l.length (clI l) ∧ (a ≠ none → b ≠ none) ∧ Below w.heap.size w w' := by
  obtain ⟨hlen, blk, off, hadr, hc⟩ := hA
  by_cases hne : l = []
  · subst hne
    cases a with
    | none =>
      have := AnyE.slices_Clone_nil Try.laysCloneI 0 c w
      change Calls Try.prog 65 _ _ _ at this
      exact this.mono fun e w' ⟨he, hw⟩ => ⟨none, 0, he, by subst hw; exact ⟨rfl, .inl ⟨rfl, rfl⟩⟩, fun h => absurd rfl h, by subst hw; exact Below.refl _ _⟩
    | some p => exact (clone0_i p c w).mono fun e w' ⟨he, ho, hb⟩ => ⟨_, _, he, ho, fun _ => by simp, hb⟩
  · obtain ⟨i0, hi, hz0, hz1, hz2⟩ := info_parts infoInt
    obtain rfl := hadr hne
    have hcell : ∀ j u, (clI l)[j]? = some u → w.cell? ⟨blk, off + j, none⟩ = some u := fun j u h => by
      have hj : j < l.length := by
        rw [← clI_len]
        rw [List.getElem?_eq_some_iff] at h
        exact h.1
      rw [clI_get l hj] at h
      cases h
      exact hc j hj
    have := AnyE.slices_Clone Try.laysCloneI i0 _ 1 8 hi hz0 hz1 hz2 (by rfl) (by decide) Try.sizeOf3 blk off l.length c (clI l) w (by rw [clI_len]; omega) (by unfold maxLen; omega) (by omega) hcell (clI_one l)
    change Calls Try.prog 65 _ _ _ at this
    refine this.mono ?_
    rintro e w' ⟨v', he, ho, hz, hb⟩
    rcases ho.2 with ⟨h1, h2⟩ | ⟨g2, c2, cur, h1, h2⟩
    · exact absurd (List.eq_nil_of_length_eq_zero h2) hne
    · subst h1
      exact ⟨_, _, he, ho, fun _ => by simp, hb⟩
/-- A plan comes back. -/
def PlnE (w : World) (l : List Int) (e : Ending) (w' : World) : Prop :=
  ∃ g c, e = .returned (.slice (some ⟨g, 0, none⟩) l.length c) ∧ PlanR w' g l ∧ w.heap.size ≤ g ∧ g < w'.heap.size ∧ Below w.heap.size w w'
theorem planR_own {w : World} {base c : Nat} {b : Option Addr} {l : List Int} (h : w.ownsRow base 3 1 (.slice b l.length c) l.length (clI l)) (hb : b ≠ none) : ∃ g, b = some ⟨g, 0, none⟩ ∧ base ≤ g ∧ g < w.heap.size ∧ PlanR w g l := by
  rcases h.2 with ⟨h1, h2⟩ | ⟨g2, c2, cur, h1, hg, hgb, _⟩
  · exact absurd (by simpa using (show b = none ∧ _ from by simpa using h1).1) hb
  · obtain ⟨rfl, rfl⟩ : b = some ⟨g2, 0, none⟩ ∧ c = c2 := by simpa using h1
    refine ⟨g2, rfl, hg, (Array.getElem?_eq_some_iff.1 hgb).1, fun i hi => ?_, fun i hi => World.ownsRow.frozenAt h i⟩
    rw [World.ownsRow.cellAt h i (by omega)]; exact clI_get l hi
theorem clone_p (a : Addr) (l : List Int) (c : Nat) (w : World) (hA : IntsC w (some a) l) (hn : l.length ≤ 100000000) :
    Calls Try.prog 65 #[.slice (some a) l.length c] w fun e w' => PlnE w l e w' :=
  (clone_i (some a) l c w hA hn).mono fun e w' ⟨b, c', he, ho, hb, hw⟩ => by
    obtain ⟨g, rfl, h1, h2, h3⟩ := planR_own ho (hb (by simp))
    exact ⟨g, c', he, h3, h1, h2, hw⟩
/-- A plan with one night in place of another, in the first k places. -/
def rplK (l : List Int) (x y : Int) : Nat → List Int
  | 0 => l
  | k + 1 => if gi l k = x then (rplK l x y k).set k y else rplK l x y k
theorem rplK_len (l : List Int) (x y : Int) : ∀ k, (rplK l x y k).length = l.length
  | 0 => rfl
  | k + 1 => by unfold rplK; split <;> simp [rplK_len l x y k]
set_option maxRecDepth 100000 in
set_option maxHeartbeats 2000000 in
theorem replaced_r (a : Addr) (l : List Int) (ca : Nat) (x y : Int) (w : World) (hA : IntsC w (some a) l) (hn : l.length ≤ 100000) :
    Calls Try.prog 46 #[.slice (some a) l.length ca, .int .i64 x, .int .i64 y] w fun e w' => PlnE w (rplK l x y l.length) e w' := by
  have HCl := Lib.hid (clone_p a l ca w hA (by omega))
  obtain ⟨hlen, blk, off, hadr, hc⟩ := hA
  have HC : Hid (∀ i, i < l.length → a = ⟨blk, off, none⟩ ∧ w.cell? ⟨blk, off + i, none⟩ = some (.int .i64 (gi l i))) := Lib.hid fun i hi => ⟨by simpa using hadr (pos_ne (n := 0) hi), hc i hi⟩
  have HS : Hid (∀ k, rplK l x y (k + 1) = if gi l k = x then (rplK l x y k).set k y else rplK l x y k) := Lib.hid fun k => rfl
  have HN : Hid (∀ k, (rplK l x y k).length = l.length) := Lib.hid (rplK_len l x y)
  have H0 : Hid (rplK l x y 0 = l) := Lib.hid rfl
  clear hc hadr
  go_enter Try.func46, Try.ntmps46
  go_wp2_with fail
  refine HCl.out.mono ?_
  rintro e wo ⟨g, cg, rfl, hpo, hg1, hg2, hbo⟩
  have hpo := Lib.hid hpo
  clear HCl
  go_wp2_with fail
  go_loopw [14] (fun i wr => ∃ k : Nat, k ≤ l.length ∧ i = .int .i64 k ∧ Hid (PlanR wr g (rplK l x y k)) ∧ Hid (Below w.heap.size w wr) ∧ g < wr.heap.size) (fun i _ => l.length - (intOf i).toNat)
  case atStart => exact ⟨0, Nat.zero_le _, rfl, by rw [H0.out]; exact hpo, Lib.hid hbo, hg2⟩
  case round =>
    obtain ⟨k, hk, rfl, HP, hb, hgw⟩ := hrel
    clear hpo hbo hg2
    by_cases hlt : k < l.length
    · obtain ⟨rfl, c0⟩ := HC.out k hlt
      have c0 := cell_below c0 hb.out
      have hSk := Lib.hid (HS.out k)
      have hNk := Lib.hid (HN.out k)
      clear HC HS HN H0
      generalize hgi : gi l k = v at *
      by_cases hv : v = x
      · have hvd : (v == x) = true := by simpa using hv
        have hS1 := Lib.hid (hSk.out.trans (if_pos hv))
        have hkp : k < (rplK l x y k).length := by rw [hNk.out]; exact hlt
        have cg := HP.out.1 k hkp
        have fg := HP.out.2 k hkp
        have hP2 := Lib.hid (HP.out.store hkp y)
        have hb2 := Lib.hid (hb.out.setCell (p := ⟨g, k, none⟩) hg1 (.int .i64 y))
        clear hv hgi hSk hkp HP hNk
        go_wp2_with fail
        go_roundw
        case rel => exact ⟨k + 1, by omega, by go_num, by rw [hS1.out]; exact hP2, hb2, by simpa using hgw⟩
        case measure => simp [intOf]; omega
      · have hvd : (v == x) = false := beq_false_of_ne hv
        have hS1 := Lib.hid (hSk.out.trans (if_neg hv))
        clear hv hgi hSk hNk
        go_wp2_with fail
        go_roundw
        case rel => exact ⟨k + 1, by omega, by go_num, by rw [hS1.out]; exact HP, hb, hgw⟩
        case measure => simp [intOf]; omega
    · obtain rfl : k = l.length := by omega
      go_wp2_with fail
      go_ret
      exact ⟨g, cg, by rw [HN.out]; rfl, HP.out, hg1, hgw, hb.out⟩
/-- How many jobs of a plan have a night. -/
def dnN (l : List Int) : Int := l.length - cntN l (-1)
theorem cntN_le (l : List Int) (x : Int) : 0 ≤ cntN l x ∧ cntN l x ≤ l.length := by
  have := selK_len (fun k => gi l k == x) l.length
  unfold cntN
  exact ⟨by omega, by omega⟩
set_option maxRecDepth 100000 in
theorem done_r (a : Option Addr) (l : List Int) (ca : Nat) (w : World) (hA : IntsC w a l) (hn : l.length ≤ 100000) :
    Calls Try.prog 32 #[.slice a l.length ca] w fun e w' => e = .returned (.int .i64 (dnN l)) ∧ Below w.heap.size w w' := by
  have HC := Lib.hid (count_r a l ca (-1) w hA hn)
  have hX : Hid (dnN l = l.length - cntN l (-1)) := Lib.hid rfl
  obtain ⟨h1, h2⟩ := cntN_le l (-1)
  generalize cntN l (-1) = C at *
  have hw : IntKind.i64.wrap ((l.length : Int) - C) = l.length - C := IntWalk.i64_in _ (by omega)
  clear hA
  go_enter Try.func32, Try.ntmps32
  go_wp2_with fail
  refine HC.out.mono ?_
  rintro e w1 ⟨rfl, hb1⟩
  go_wp2_with fail
  go_ret
  exact ⟨by rw [hX.out]; rfl, hb1⟩
end Go.Proofs.Ytghlhjiomebmhaa
