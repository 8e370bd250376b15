/-
  choices of package night. By an AI agent.
-/
import Derived.Test.YtghlhjiomebmhaaNiJ
import Derived.Deep.RegionHeld3
import Derived.Deep.AppendLies
import Derived.BigQuiet
import Derived.StillTailTactics
namespace Go.Proofs.Ytghlhjiomebmhaa
set_option linter.unusedVariables false
set_option linter.unusedSimpArgs false
open Go.RowKit

set_option maxRecDepth 100000 in
set_option maxHeartbeats 1000000 in
theorem ch1_r (j : Jo) (ns : List Ni) (b : Option Addr) (cb Bj Bn k : Nat) (hk : k < ns.length) (w : World) (hN : NightsS w b ns) (p0 : w.cell? ⟨Bj, 0, none⟩ = some (.int .i64 j.n)) (p1 : w.cell? ⟨Bj, 1, none⟩ = some (.int .i64 j.r)) (p2 : w.cell? ⟨Bj, 2, none⟩ = some (.int .i64 j.c)) (p3 : w.cell? ⟨Bj, 3, none⟩ = some (.int .i64 j.f)) (p4 : w.cell? ⟨Bj, 4, none⟩ = some (.int .i64 j.l)) (p5 : w.cell? ⟨Bj, 5, none⟩ = some (.int .i64 j.w)) (p6 : w.cell? ⟨Bj, 6, none⟩ = some (.bool j.dy)) (p7 : w.cell? ⟨Bj, 7, none⟩ = some (.bool j.wm)) (pn : w.cell? ⟨Bn, 0, none⟩ = some (.slice b ns.length cb)) :
    Calls Try.prog 74 (#[.int .i64 k] ++ #[.pointer (some ⟨Bj, 0, none⟩), .pointer (some ⟨Bn, 0, none⟩)]) w fun e w' => e = .returned (.bool (fitB j (gn ns k))) ∧ Below w.heap.size w w' := by
  obtain ⟨hlen, blk, off, hadr, hc⟩ := hN
  obtain rfl := hadr (pos_ne (n := 0) hk)
  obtain ⟨c0, c1, c2, c3, c4, c5, c6, c7⟩ := hc k hk
  clear hc hadr
  generalize gn ns k = s at *
  have HF := Lib.hid (fun W => fits_r j s W)
  have hk1 : decide ((0 : Int) ≤ k) = true := decide_eq_true (by omega)
  have hk2 : decide ((k : Int) < ns.length) = true := decide_eq_true (by omega)
  go_enter Try.func74, Try.ntmps74
  go_wp2_with fail
  go_still_tail 5, (by kernel_rfl)
  change wpList _ _ _ _ _ w.drew
  have hb := (Below.refl w.heap.size w).drew
  generalize w.drew = wq at hb ⊢
  go_wp2_with fail
  refine (HF.out _).mono ?_
  rintro e w1 ⟨rfl, hb1⟩
  go_wp2_with fail
  go_ret
  exact ⟨rfl, below_onN hb hb1 hb.size⟩
set_option maxRecDepth 100000 in
set_option maxHeartbeats 2000000 in
theorem indexes_ch (n : Nat) (hn : n ≤ 100000) (lb : Array Value) (p : Nat → Bool) (w : World)
    (hp : ∀ j W, j < n → Below w.heap.size w W → Calls Try.prog 74 (#[.int .i64 j] ++ lb) W fun e w' => e = .returned (.bool (p j)) ∧ Below W.heap.size W w') :
    Calls Try.prog 36 #[.int .i64 n, .func (.func 74) #[] lb] w fun e w' => IdxE w (selK p n) e w' := by
  have HP := Lib.hid hp
  have HS : Hid (∀ k, selK p (k + 1) = if p k = true then selK p k ++ [(k : Int)] else selK p k) := Lib.hid fun k => rfl
  have HN : Hid (∀ k, (selK p k).length ≤ k) := Lib.hid (selK_len p)
  have H0 : Hid (selK p 0 = []) := Lib.hid rfl
  clear hp
  go_enter Try.func36, Try.ntmps36
  go_wp2_with fail
  go_loopw [5, 8] (fun v i wr => ∃ k : Nat, k ≤ n ∧ i = .int .i64 k ∧ (∃ a c, v = .slice a (selK p k).length c) ∧ Hid (wr.ownsRow w.heap.size 3 1 v (selK p k).length (clI (selK p k))) ∧ Below w.heap.size w wr) (fun _ i _ => n - (intOf i).toNat)
  case atStart => exact ⟨0, Nat.zero_le _, rfl, ⟨none, 0, by rw [H0.out]; rfl⟩, Lib.hid (by rw [H0.out]; exact ⟨rfl, .inl ⟨rfl, rfl⟩⟩), Below.refl _ _⟩
  case round =>
    obtain ⟨k, hk, rfl, ⟨av, cv, rfl⟩, HRow, hb⟩ := hrel
    by_cases hlt : k < n
    · have HK := Lib.hid (fun W hW => HP.out k W hlt hW)
      have HSk := Lib.hid (HS.out k)
      have hNk := HN.out k
      clear HP HS H0 HN
      cases hpk : p k with
      | false =>
        rw [hpk] at HK HSk
        have HS1 : Hid (selK p (k + 1) = selK p k) := Lib.hid (HSk.out.trans (if_neg (by decide)))
        clear hpk HSk
        generalize hX : selK p k = X at *
        clear hX
        go_wp2_with fail
        refine (HK.out _ hb).mono ?_
        rintro e w1 ⟨rfl, hb1⟩
        have HRow := Lib.hid (owns_belowI HRow.out hb1)
        have hb := below_onN hb hb1 hb.size
        clear hb1
        go_wp2_with fail
        go_roundw
        case rel => exact ⟨k + 1, by omega, by go_num, ⟨av, cv, by rw [HS1.out]⟩, by rw [HS1.out]; exact HRow, hb⟩
        case measure => simp [intOf]; omega
      | true =>
        rw [hpk] at HK HSk
        have HS1 : Hid (selK p (k + 1) = selK p k ++ [(k : Int)]) := Lib.hid (HSk.out.trans (if_pos rfl))
        clear hpk HSk
        generalize hX : selK p k = X at *
        clear hX
        go_wp2_with fail
        refine (HK.out _ hb).mono ?_
        rintro e w1 ⟨rfl, hb1⟩
        have HRow := Lib.hid (owns_belowI HRow.out hb1)
        have hb := below_onN hb hb1 hb.size
        have hbs := hb.size
        clear hb1 HK
        obtain ⟨m, hm⟩ : ∃ m, X.length = m := ⟨_, rfl⟩
        have HM := Lib.hid hm
        rw [hm] at HRow hNk
        rw [hm]
        clear hm
        have hown := Lib.hid (HRow.out.alloc (.cells #[.int .i64 k] 3))
        go_wp2_with (first | (at_builtin; go_loud (refine app_int rfl _ _ rfl w.heap.size m cv av _ rfl hown.out w1.heap.size (.int .i64 k) rfl ?d1 (by rfl) (by omega) ?d2 ?_)))
        case d1 => simp [go_sem]
        case d2 => first | (simp; omega) | omega
        intro g6 c6 w6 hown6 hb6
        have hb6 : Below w.heap.size w w6 := (hb.alloc hbs _).trans hb6
        have hrow6 : Hid (w6.ownsRow w.heap.size 3 1 (.slice (some ⟨g6, 0, none⟩) (m + 1) c6) (m + 1) (clI (X ++ [(k : Int)]))) := Lib.hid (by rw [clI_app]; exact hown6)
        clear hown6 hown HRow
        go_wp2_with fail
        go_roundw
        case rel => exact ⟨k + 1, by omega, by go_num, ⟨_, c6, by rw [HS1.out, List.length_append, HM.out]; rfl⟩, by rw [HS1.out, List.length_append, HM.out]; exact hrow6, hb6⟩
        case measure => simp [intOf]; omega
    · obtain rfl : k = n := by omega
      clear HP HS HN H0
      go_wp2_with fail
      go_ret
      exact ⟨av, cv, rfl, HRow.out, hb⟩
/-- The nights that a job fits. -/
def rowF (ns : List Ni) (j : Jo) : List Int := selK (fun k => fitB j (gn ns k)) ns.length
/-- The nights that each job fits. -/
def chL (js : List Jo) (ns : List Ni) : List (List Int) := js.map (rowF ns)
theorem gr_chL (js : List Jo) (ns : List Ni) {i : Nat} (hi : i < js.length) : gr (chL js ns) i = rowF ns (gj js i) := by
  unfold gr chL gj; simp [hi]
/-- Those that are such, each an index. -/
theorem selK_mem (p : Nat → Bool) : ∀ k x, x ∈ selK p k → ∃ m : Nat, x = m ∧ m < k ∧ p m = true
  | 0, x, h => by simp [selK] at h
  | k + 1, x, h => by
    unfold selK at h
    split at h
    · next hp =>
      rw [List.mem_append] at h
      rcases h with h | h
      · obtain ⟨m, h1, h2, h3⟩ := selK_mem p k x h; exact ⟨m, h1, by omega, h3⟩
      · simp at h; exact ⟨k, h, by omega, hp⟩
    · obtain ⟨m, h1, h2, h3⟩ := selK_mem p k x h; exact ⟨m, h1, by omega, h3⟩
theorem selK_gi (p : Nat → Bool) (n : Nat) {j : Nat} (hj : j < (selK p n).length) : ∃ m : Nat, gi (selK p n) j = m ∧ m < n ∧ p m = true := by
  refine selK_mem p n _ ?_
  unfold gi
  rw [List.getD_eq_getElem?_getD, List.getElem?_eq_getElem hj, Option.getD_some]
  exact List.getElem_mem hj
/-- The lists of nights come back. -/
def ChE (w : World) (C : List (List Int)) (e : Ending) (w' : World) : Prop := ∃ a c, e = .returned (.slice a C.length c) ∧ (∀ w2, (∀ k, w.heap.size ≤ k → k < w'.heap.size → w2.heap[k]? = w'.heap[k]?) → RowsS w2 a C) ∧ Below w.heap.size w w'
set_option maxRecDepth 100000 in
set_option maxHeartbeats 4000000 in
theorem choices_r (a : Option Addr) (js : List Jo) (ca : Nat) (b : Option Addr) (ns : List Ni) (cb : Nat) (w : World) (hA : JobsS w a js) (hB : NightsS w b ns) (hj : js.length ≤ 1000) (hn : ns.length ≤ 1000) :
    Calls Try.prog 62 #[.slice a js.length ca, .slice b ns.length cb] w fun e w' => ChE w (chL js ns) e w' := by
  have HI := Lib.hid (fun (W : World) (j : Jo) (Bj Bn : Nat) (hN : NightsS W b ns) (q0 : W.cell? ⟨Bj, 0, none⟩ = some (.int .i64 j.n)) (q1 : W.cell? ⟨Bj, 1, none⟩ = some (.int .i64 j.r)) (q2 : W.cell? ⟨Bj, 2, none⟩ = some (.int .i64 j.c)) (q3 : W.cell? ⟨Bj, 3, none⟩ = some (.int .i64 j.f)) (q4 : W.cell? ⟨Bj, 4, none⟩ = some (.int .i64 j.l)) (q5 : W.cell? ⟨Bj, 5, none⟩ = some (.int .i64 j.w)) (q6 : W.cell? ⟨Bj, 6, none⟩ = some (.bool j.dy)) (q7 : W.cell? ⟨Bj, 7, none⟩ = some (.bool j.wm)) (qn : W.cell? ⟨Bn, 0, none⟩ = some (.slice b ns.length cb)) =>
    indexes_ch ns.length (by omega) #[.pointer (some ⟨Bj, 0, none⟩), .pointer (some ⟨Bn, 0, none⟩)] (fun k => fitB j (gn ns k)) W (fun k W' hk hW => ch1_r j ns b cb Bj Bn k hk W' (hN.below hW) (cell_below q0 hW) (cell_below q1 hW) (cell_below q2 hW) (cell_below q3 hW) (cell_below q4 hW) (cell_below q5 hW) (cell_below q6 hW) (cell_below q7 hW) (cell_below qn hW)))
  obtain ⟨hlen, blk, off, hadr, hc⟩ := hA
  have HC := Lib.hid hc
  have HL : Hid (0 < js.length → a = some ⟨blk, off, none⟩) := Lib.hid fun h => hadr (pos_ne (n := 0) h)
  have HG : Hid (∀ (W : World) (av : Option Addr) (cv : Nat), GrowR (w.heap.size + 1) W (.slice av js.length cv) js.length (fun i => rowF ns (gj js i)) → ∀ w2, (∀ k, w.heap.size ≤ k → k < W.heap.size → w2.heap[k]? = W.heap[k]?) → RowsS w2 av (chL js ns)) := Lib.hid fun W av cv h w2 hs => h.rows (chL js ns) (by simp [chL]) (fun i hi => gr_chL js ns hi) (by omega) (fun i hi => ⟨by have := selK_len (fun k => fitB (gj js i) (gn ns k)) ns.length; unfold rowF; omega, fun m hm => by
    obtain ⟨q, e, hq, _⟩ := selK_gi _ _ hm
    unfold rowF
    rw [e]
    exact ⟨by omega, by omega⟩⟩) (fun k hk => hs k (by omega))
  have HCL : Hid ((chL js ns).length = js.length) := Lib.hid (by simp [chL])
  have hnl := hB.1
  have HRW : Hid (∀ i, rowF ns (gj js i) = selK (fun k => fitB (gj js i) (gn ns k)) ns.length) := Lib.hid fun i => rfl
  clear hc hadr
  have hBH := Lib.hid hB
  clear hB
  obtain ⟨wB, hwB⟩ : ∃ wB, w.alloc (.cells #[.slice b ns.length cb] 23) = wB := ⟨_, rfl⟩
  have hbB : Below w.heap.size w wB := by rw [← hwB]; exact (Below.refl _ _).alloc (Nat.le_refl _) _
  have pn : wB.cell? ⟨w.heap.size, 0, none⟩ = some (.slice b ns.length cb) := by rw [← hwB]; simp [go_sem]
  go_enter Try.func62, Try.ntmps62
  go_wp2_with fail
  go_loopw [5, 10] (fun v i wr => ∃ k : Nat, k ≤ js.length ∧ i = .int .i64 k ∧ (∃ av cv, v = .slice av k cv) ∧ Hid (GrowR (w.heap.size + 1) wr v k (fun i => rowF ns (gj js i))) ∧ Hid (Below w.heap.size w wr) ∧ wr.cell? ⟨w.heap.size, 0, none⟩ = some (.slice b ns.length cb)) (fun _ i _ => js.length - (intOf i).toNat)
  case atStart => exact ⟨0, Nat.zero_le _, rfl, ⟨none, 0, rfl⟩, Lib.hid (GrowR.nil _ _ _), Lib.hid hbB, pn⟩
  case round =>
    obtain ⟨k, hk, rfl, ⟨av, cv, rfl⟩, HR, hb, pn⟩ := hrel
    clear hwB hbB
    by_cases hlt : k < js.length
    · obtain rfl := HL.out (by omega)
      obtain ⟨c0, c1, c2, c3, c4, c5, c6, c7⟩ := HC.out k hlt
      have c0 := cell_below c0 hb.out
      have c1 := cell_below c1 hb.out
      have c2 := cell_below c2 hb.out
      have c3 := cell_below c3 hb.out
      have c4 := cell_below c4 hb.out
      have c5 := cell_below c5 hb.out
      have c6 := cell_below c6 hb.out
      have c7 := cell_below c7 hb.out
      have HRk := Lib.hid (HRW.out k)
      clear HC HL HG HRW HCL
      have hk9 : Hid ((fun i => rowF ns (gj js i)) k = rowF ns (gj js k)) := Lib.hid rfl
      generalize hROWS : (fun i => rowF ns (gj js i)) = rows at *
      have hROWS := Lib.hid hROWS
      generalize gj js k = j at *
      generalize rowF ns j = row at *
      obtain ⟨wC, hwC⟩ : ∃ wC, wr.alloc (.cells #[.int .i64 j.n, .int .i64 j.r, .int .i64 j.c, .int .i64 j.f, .int .i64 j.l, .int .i64 j.w, .bool j.dy, .bool j.wm] 43) = wC := ⟨_, rfl⟩
      have hbC : Below wr.heap.size wr wC := by rw [← hwC]; exact (Below.refl _ _).alloc (Nat.le_refl _) _
      have p0 : wC.cell? ⟨wr.heap.size, 0, none⟩ = some (.int .i64 j.n) := by rw [← hwC]; simp [go_sem]
      have p1 : wC.cell? ⟨wr.heap.size, 1, none⟩ = some (.int .i64 j.r) := by rw [← hwC]; simp [go_sem]
      have p2 : wC.cell? ⟨wr.heap.size, 2, none⟩ = some (.int .i64 j.c) := by rw [← hwC]; simp [go_sem]
      have p3 : wC.cell? ⟨wr.heap.size, 3, none⟩ = some (.int .i64 j.f) := by rw [← hwC]; simp [go_sem]
      have p4 : wC.cell? ⟨wr.heap.size, 4, none⟩ = some (.int .i64 j.l) := by rw [← hwC]; simp [go_sem]
      have p5 : wC.cell? ⟨wr.heap.size, 5, none⟩ = some (.int .i64 j.w) := by rw [← hwC]; simp [go_sem]
      have p6 : wC.cell? ⟨wr.heap.size, 6, none⟩ = some (.bool j.dy) := by rw [← hwC]; simp [go_sem]
      have p7 : wC.cell? ⟨wr.heap.size, 7, none⟩ = some (.bool j.wm) := by rw [← hwC]; simp [go_sem]
      have pn := cell_below pn hbC
      have hzC : w.heap.size + 1 ≤ wC.heap.size := block_lt pn
      have HR := Lib.hid (HR.out.below hbC)
      have hb := Lib.hid (below_onN hb.out hbC hb.out.size)
      have hNC := hBH.out.below hb.out
      have HIk := Lib.hid (HI.out wC j wr.heap.size w.heap.size hNC p0 p1 p2 p3 p4 p5 p6 p7 pn)
      rw [← HRk.out] at HIk
      clear hNC HI p0 p1 p2 p3 p4 p5 p6 p7 HRk
      go_wp2_with fail
      refine HIk.out.mono ?_
      rintro e w1 ⟨a1, c1x, rfl, hrow, hb1⟩
      have hav : Hid (RowAt (w.heap.size + 1) w1 a1 row (Value.slice av k cv).ownBlock ∧ row.length ≤ c1x) := Lib.hid ⟨(rowAt_own hrow (fun z hz => HR.out.owned z hz)).1.lower hzC, (rowAt_own hrow (fun z hz => HR.out.owned z hz)).2⟩
      have HR := Lib.hid ((HR.out.below hb1).alloc (.cells #[.slice a1 row.length c1x] 26))
      have hav : Hid (RowAt (w.heap.size + 1) (w1.alloc (.cells #[.slice a1 row.length c1x] 26)) a1 row (Value.slice av k cv).ownBlock ∧ row.length ≤ c1x) := Lib.hid ⟨hav.out.1.below ((Below.refl _ _).alloc (Nat.le_refl _) _), hav.out.2⟩
      have hbq := below_onN hb.out hb1 hb.out.size
      have hbs := hbq.size
      have pn := cell_below pn hb1
      have hzn := block_lt pn
      have hav2 : Hid (RowAt (w.heap.size + 1) (w1.alloc (.cells #[.slice a1 row.length c1x] 26)) a1 (rows k) (Value.slice av k cv).ownBlock ∧ (rows k).length ≤ c1x) := Lib.hid (by rw [hk9.out]; exact hav.out)
      have hcN : Hid ((w1.alloc (.cells #[.slice a1 row.length c1x] 26)).cell? ⟨w1.heap.size, 0, none⟩ = some (.slice a1 (rows k).length c1x)) := Lib.hid (by rw [hk9.out]; simp [go_sem])
      have hbN : Hid (Below (w.heap.size + 1) w1 (w1.alloc (.cells #[.slice a1 row.length c1x] 26))) := Lib.hid ((Below.refl _ _).alloc (by omega) _)
      have hn1 := HR.out
      clear hrow hb1 hav HIk hb
      go_wp2_with (first | (at_builtin; go_loud (refine app_row rfl _ _ rfl (w.heap.size + 1) k (.slice av k cv) rows rfl hn1 w1.heap.size a1 c1x rfl hcN.out hav2.out (by omega) ?d1 ?_)))
      case d1 => simp; omega
      intro g6 c6 w6 HG6 hb6
      have pn := (hb6.cell (p := ⟨w.heap.size, 0, none⟩) (by simp)).trans ((hbN.out.cell (p := ⟨w.heap.size, 0, none⟩) (by simp)).trans pn)
      have HG6 := Lib.hid HG6
      have hb6 := Lib.hid ((hbq.alloc hbs _).trans (hb6.mono (by simp)))
      clear hbN hn1 HR hav2 hcN
      go_wp2_with fail
      go_roundw
      case rel => exact ⟨k + 1, by omega, by go_num, ⟨_, c6, rfl⟩, HG6, hb6, pn⟩
      case measure => simp [intOf]; omega
    · obtain rfl : k = js.length := by omega
      have hR := Lib.hid (HG.out wr av cv HR.out)
      go_wp2_with fail
      go_ret
      exact ⟨av, cv, by rw [HCL.out]; rfl, hR.out, hb.out⟩
end Go.Proofs.Ytghlhjiomebmhaa
