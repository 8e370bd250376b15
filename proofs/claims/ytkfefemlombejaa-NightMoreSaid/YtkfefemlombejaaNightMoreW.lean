/-
  The law NightMore of package night. By an AI agent.
-/
import Derived.Test.YtkfefemlombejaaNiAp
import Derived.Test.YtkfefemlombejaaNiMo
import Derived.Test.YtkfefemlombejaaNiAw
import Derived.Test.YtkfefemlombejaaNiRd
import Derived.Deep.RegionHeld3
import Derived.BigQuiet
import Derived.Deep.DeepCutAuto
namespace Go.Proofs.Ytkfefemlombejaa
set_option linter.unusedVariables false
set_option linter.unusedSimpArgs false
open Go.RowKit

/-- What Most counts, 0 where the lists are refused. -/
def mV (js : List Jo) (ns : List Ni) : Int := if errL js ns = 0 then mostN js ns else 0
theorem most_any (a : Option Addr) (js : List Jo) (ca : Nat) (b : Option Addr) (ns : List Ni) (cb : Nat) (w : World) (hA : JobsS w a js) (hB : NightsS w b ns) {m e : Int} (hm : mV js ns = m) (he : errL js ns = e) :
    Calls Try.prog 11 #[.slice a js.length ca, .slice b ns.length cb] w fun E w' => E = .returned (.tuple #[.int .i64 m, .int .i64 e]) ∧ Below w.heap.size w w' := by
  subst hm he
  unfold mV
  by_cases h : errL js ns = 0
  · rw [if_pos h]
    have := most_ok a js ca b ns cb w hA hB h
    rw [h]; exact this
  · rw [if_neg h]
    exact most_bad a js ca b ns cb w hA hB h
theorem blk_cell {w w' : World} {B i : Nat} {v : Value} (hs : w'.heap[B]? = w.heap[B]?) (h : w.cell? ⟨B, i, none⟩ = some v) : w'.cell? ⟨B, i, none⟩ = some v :=
  (World.cell?_of_block (w := w) (w' := w') (a := ⟨B, i, none⟩) hs).trans h
theorem loneN {w : World} {B : Nat} {x : Ni} {fr : Nat × Nat} (h : w.heap[B]? = some (.cells #[.int .i64 x.d, .int .i64 x.r, .int .i64 x.f, .int .i64 x.t, .int .i64 x.w, .int .i64 x.p, .bool x.rn, .bool x.fr] 27 fr)) : NightsS w (some ⟨B, 0, none⟩) [x] := by
  refine ⟨by simp, B, 0, fun _ => rfl, fun i hi => ?_⟩
  obtain rfl : i = 0 := by simpa using hi
  refine ⟨?_, ?_, ?_, ?_, ?_, ?_, ?_, ?_⟩
  all_goals exact cell_of_row w B _ _ _ fr h
theorem loneJ {w : World} {B : Nat} {x : Jo} {fr : Nat × Nat} (h : w.heap[B]? = some (.cells #[.int .i64 x.n, .int .i64 x.r, .int .i64 x.c, .int .i64 x.f, .int .i64 x.l, .int .i64 x.w, .bool x.dy, .bool x.wm] 29 fr)) : JobsS w (some ⟨B, 0, none⟩) [x] := by
  refine ⟨by simp, B, 0, fun _ => rfl, fun i hi => ?_⟩
  obtain rfl : i = 0 := by simpa using hi
  refine ⟨?_, ?_, ?_, ?_, ?_, ?_, ?_, ?_⟩
  all_goals exact cell_of_row w B _ _ _ fr h
theorem own_some {w : World} {base : Nat} {e : TypeId} {g : Option Addr} {n c : Nat} {xs : List Value} (h : w.ownsRow base e 8 (.slice g n c) n xs) (hn : 0 < n) : ∃ gb, g = some ⟨gb, 0, none⟩ ∧ base ≤ gb := by
  rcases h.2 with ⟨h1, h2⟩ | ⟨g2, c2, cur, h1, h2, _⟩
  · omega
  · have e : g = some ⟨g2, 0, none⟩ := by simpa using (Value.slice.inj h1).1
    exact ⟨g2, e, h2⟩
set_option maxRecDepth 100000 in
set_option maxHeartbeats 40000000 in
theorem nightMore_a (ja : Option Addr) (js : List Jo) (jc : Nat) (na : Option Addr) (ns : List Ni) (nc : Nat) (x : Ni) (y : Jo) (t : Int) (w : World) (hJ : JobsS w ja js) (hN : NightsS w na ns) (bt0 : 0 ≤ t) (bt1 : t ≤ 255) (h0 : wideB js.length ns.length 20 20 = true) :
    Calls Try.prog 3 #[.agg #[.slice ja js.length jc, .slice na ns.length nc], .agg #[.int .i64 x.d, .int .i64 x.r, .int .i64 x.f, .int .i64 x.t, .int .i64 x.w, .int .i64 x.p, .bool x.rn, .bool x.fr, .int .i64 y.n, .int .i64 y.r, .int .i64 y.c, .int .i64 y.f, .int .i64 y.l, .int .i64 y.w, .bool y.dy, .bool y.wm, .int .u8 t]] w fun e w' => e = .returned (.bool true) ∧ Below w.heap.size w w' := by
  have HA := Lib.hid (fun W => awake_any W)
  have hjl := hJ.1
  have HW := Lib.hid (fun W => wide_v ja js.length jc na ns.length nc 20 20 W h0)
  clear h0 hJ hN
  obtain ⟨wB, hwB⟩ : ∃ wB, (w.alloc (.cells #[.slice ja js.length jc, .slice na ns.length nc] 25)).alloc (.cells #[.int .i64 x.d, .int .i64 x.r, .int .i64 x.f, .int .i64 x.t, .int .i64 x.w, .int .i64 x.p, .bool x.rn, .bool x.fr, .int .i64 y.n, .int .i64 y.r, .int .i64 y.c, .int .i64 y.f, .int .i64 y.l, .int .i64 y.w, .bool y.dy, .bool y.wm, .int .u8 t] 31) = wB := ⟨_, rfl⟩
  have hb : Below w.heap.size w wB := by rw [← hwB]; exact ((Below.refl _ _).alloc (Nat.le_refl _) _).alloc (by simp) _
  have p0 : wB.cell? ⟨w.heap.size, 0, none⟩ = some (.slice ja js.length jc) := by rw [← hwB]; simp [go_sem]
  have p1 : wB.cell? ⟨w.heap.size, 1, none⟩ = some (.slice na ns.length nc) := by rw [← hwB]; simp [go_sem]
  have q0 : wB.cell? ⟨w.heap.size + 1, 0, none⟩ = some (.int .i64 x.d) := by rw [← hwB]; simp [go_sem]
  have q1 : wB.cell? ⟨w.heap.size + 1, 1, none⟩ = some (.int .i64 x.r) := by rw [← hwB]; simp [go_sem]
  have q2 : wB.cell? ⟨w.heap.size + 1, 2, none⟩ = some (.int .i64 x.f) := by rw [← hwB]; simp [go_sem]
  have q3 : wB.cell? ⟨w.heap.size + 1, 3, none⟩ = some (.int .i64 x.t) := by rw [← hwB]; simp [go_sem]
  have q4 : wB.cell? ⟨w.heap.size + 1, 4, none⟩ = some (.int .i64 x.w) := by rw [← hwB]; simp [go_sem]
  have q5 : wB.cell? ⟨w.heap.size + 1, 5, none⟩ = some (.int .i64 x.p) := by rw [← hwB]; simp [go_sem]
  have q6 : wB.cell? ⟨w.heap.size + 1, 6, none⟩ = some (.bool x.rn) := by rw [← hwB]; simp [go_sem]
  have q7 : wB.cell? ⟨w.heap.size + 1, 7, none⟩ = some (.bool x.fr) := by rw [← hwB]; simp [go_sem]
  have q8 : wB.cell? ⟨w.heap.size + 1, 8, none⟩ = some (.int .i64 y.n) := by rw [← hwB]; simp [go_sem]
  have q9 : wB.cell? ⟨w.heap.size + 1, 9, none⟩ = some (.int .i64 y.r) := by rw [← hwB]; simp [go_sem]
  have q10 : wB.cell? ⟨w.heap.size + 1, 10, none⟩ = some (.int .i64 y.c) := by rw [← hwB]; simp [go_sem]
  have q11 : wB.cell? ⟨w.heap.size + 1, 11, none⟩ = some (.int .i64 y.f) := by rw [← hwB]; simp [go_sem]
  have q12 : wB.cell? ⟨w.heap.size + 1, 12, none⟩ = some (.int .i64 y.l) := by rw [← hwB]; simp [go_sem]
  have q13 : wB.cell? ⟨w.heap.size + 1, 13, none⟩ = some (.int .i64 y.w) := by rw [← hwB]; simp [go_sem]
  have q14 : wB.cell? ⟨w.heap.size + 1, 14, none⟩ = some (.bool y.dy) := by rw [← hwB]; simp [go_sem]
  have q15 : wB.cell? ⟨w.heap.size + 1, 15, none⟩ = some (.bool y.wm) := by rw [← hwB]; simp [go_sem]
  have q16 : wB.cell? ⟨w.heap.size + 1, 16, none⟩ = some (.int .u8 t) := by rw [← hwB]; simp [go_sem]

  go_enter Try.func3, Try.ntmps3
  go_wp2_with fail
  refine (HW.out _).mono ?_
  rintro e w1 ⟨rfl, hbx⟩
  replace p0 := cell_below p0 hbx
  replace p1 := cell_below p1 hbx
  replace q0 := cell_below q0 hbx
  replace q1 := cell_below q1 hbx
  replace q2 := cell_below q2 hbx
  replace q3 := cell_below q3 hbx
  replace q4 := cell_below q4 hbx
  replace q5 := cell_below q5 hbx
  replace q6 := cell_below q6 hbx
  replace q7 := cell_below q7 hbx
  replace q8 := cell_below q8 hbx
  replace q9 := cell_below q9 hbx
  replace q10 := cell_below q10 hbx
  replace q11 := cell_below q11 hbx
  replace q12 := cell_below q12 hbx
  replace q13 := cell_below q13 hbx
  replace q14 := cell_below q14 hbx
  replace q15 := cell_below q15 hbx
  replace q16 := cell_below q16 hbx
  replace hb := below_onN hb hbx hb.size
  clear hbx
  go_wp2_with fail
  refine (HA.out _).mono ?_
  rintro e wz ⟨rfl, hbz⟩
  go_wp2_with fail
  go_ret
  exact ⟨rfl, below_onN hb hbz hb.size⟩

set_option maxRecDepth 100000 in
set_option maxHeartbeats 40000000 in
theorem nightMore_b (ja : Option Addr) (js : List Jo) (jc : Nat) (na : Option Addr) (ns : List Ni) (nc : Nat) (x : Ni) (y : Jo) (t : Int) (w : World) (hJ : JobsS w ja js) (hN : NightsS w na ns) (bt0 : 0 ≤ t) (bt1 : t ≤ 255) (h0 : wideB js.length ns.length 20 20 = false) (h2 : (errL js ns == 0) = false) :
    Calls Try.prog 3 #[.agg #[.slice ja js.length jc, .slice na ns.length nc], .agg #[.int .i64 x.d, .int .i64 x.r, .int .i64 x.f, .int .i64 x.t, .int .i64 x.w, .int .i64 x.p, .bool x.rn, .bool x.fr, .int .i64 y.n, .int .i64 y.r, .int .i64 y.c, .int .i64 y.f, .int .i64 y.l, .int .i64 y.w, .bool y.dy, .bool y.wm, .int .u8 t]] w fun e w' => e = .returned (.bool true) ∧ Below w.heap.size w w' := by
  have HA := Lib.hid (fun W => awake_any W)
  have hjl := hJ.1
  have HW := Lib.hid (fun W => wide_v ja js.length jc na ns.length nc 20 20 W h0)
  have HV := Lib.hid (fun W (hW : Below w.heap.size w W) => refValid_r ja js jc na ns nc W (hJ.below hW) (hN.below hW) (v := false) h2)
  clear h0 h2 hJ hN
  obtain ⟨wB, hwB⟩ : ∃ wB, (w.alloc (.cells #[.slice ja js.length jc, .slice na ns.length nc] 25)).alloc (.cells #[.int .i64 x.d, .int .i64 x.r, .int .i64 x.f, .int .i64 x.t, .int .i64 x.w, .int .i64 x.p, .bool x.rn, .bool x.fr, .int .i64 y.n, .int .i64 y.r, .int .i64 y.c, .int .i64 y.f, .int .i64 y.l, .int .i64 y.w, .bool y.dy, .bool y.wm, .int .u8 t] 31) = wB := ⟨_, rfl⟩
  have hb : Below w.heap.size w wB := by rw [← hwB]; exact ((Below.refl _ _).alloc (Nat.le_refl _) _).alloc (by simp) _
  have p0 : wB.cell? ⟨w.heap.size, 0, none⟩ = some (.slice ja js.length jc) := by rw [← hwB]; simp [go_sem]
  have p1 : wB.cell? ⟨w.heap.size, 1, none⟩ = some (.slice na ns.length nc) := by rw [← hwB]; simp [go_sem]
  have q0 : wB.cell? ⟨w.heap.size + 1, 0, none⟩ = some (.int .i64 x.d) := by rw [← hwB]; simp [go_sem]
  have q1 : wB.cell? ⟨w.heap.size + 1, 1, none⟩ = some (.int .i64 x.r) := by rw [← hwB]; simp [go_sem]
  have q2 : wB.cell? ⟨w.heap.size + 1, 2, none⟩ = some (.int .i64 x.f) := by rw [← hwB]; simp [go_sem]
  have q3 : wB.cell? ⟨w.heap.size + 1, 3, none⟩ = some (.int .i64 x.t) := by rw [← hwB]; simp [go_sem]
  have q4 : wB.cell? ⟨w.heap.size + 1, 4, none⟩ = some (.int .i64 x.w) := by rw [← hwB]; simp [go_sem]
  have q5 : wB.cell? ⟨w.heap.size + 1, 5, none⟩ = some (.int .i64 x.p) := by rw [← hwB]; simp [go_sem]
  have q6 : wB.cell? ⟨w.heap.size + 1, 6, none⟩ = some (.bool x.rn) := by rw [← hwB]; simp [go_sem]
  have q7 : wB.cell? ⟨w.heap.size + 1, 7, none⟩ = some (.bool x.fr) := by rw [← hwB]; simp [go_sem]
  have q8 : wB.cell? ⟨w.heap.size + 1, 8, none⟩ = some (.int .i64 y.n) := by rw [← hwB]; simp [go_sem]
  have q9 : wB.cell? ⟨w.heap.size + 1, 9, none⟩ = some (.int .i64 y.r) := by rw [← hwB]; simp [go_sem]
  have q10 : wB.cell? ⟨w.heap.size + 1, 10, none⟩ = some (.int .i64 y.c) := by rw [← hwB]; simp [go_sem]
  have q11 : wB.cell? ⟨w.heap.size + 1, 11, none⟩ = some (.int .i64 y.f) := by rw [← hwB]; simp [go_sem]
  have q12 : wB.cell? ⟨w.heap.size + 1, 12, none⟩ = some (.int .i64 y.l) := by rw [← hwB]; simp [go_sem]
  have q13 : wB.cell? ⟨w.heap.size + 1, 13, none⟩ = some (.int .i64 y.w) := by rw [← hwB]; simp [go_sem]
  have q14 : wB.cell? ⟨w.heap.size + 1, 14, none⟩ = some (.bool y.dy) := by rw [← hwB]; simp [go_sem]
  have q15 : wB.cell? ⟨w.heap.size + 1, 15, none⟩ = some (.bool y.wm) := by rw [← hwB]; simp [go_sem]
  have q16 : wB.cell? ⟨w.heap.size + 1, 16, none⟩ = some (.int .u8 t) := by rw [← hwB]; simp [go_sem]

  go_enter Try.func3, Try.ntmps3
  go_wp2_with fail
  refine (HW.out _).mono ?_
  rintro e w1 ⟨rfl, hbx⟩
  replace p0 := cell_below p0 hbx
  replace p1 := cell_below p1 hbx
  replace q0 := cell_below q0 hbx
  replace q1 := cell_below q1 hbx
  replace q2 := cell_below q2 hbx
  replace q3 := cell_below q3 hbx
  replace q4 := cell_below q4 hbx
  replace q5 := cell_below q5 hbx
  replace q6 := cell_below q6 hbx
  replace q7 := cell_below q7 hbx
  replace q8 := cell_below q8 hbx
  replace q9 := cell_below q9 hbx
  replace q10 := cell_below q10 hbx
  replace q11 := cell_below q11 hbx
  replace q12 := cell_below q12 hbx
  replace q13 := cell_below q13 hbx
  replace q14 := cell_below q14 hbx
  replace q15 := cell_below q15 hbx
  replace q16 := cell_below q16 hbx
  replace hb := below_onN hb hbx hb.size
  clear hbx
  go_wp2_with fail
  refine (HV.out _ hb).mono ?_
  rintro e w2 ⟨rfl, hbx⟩
  replace p0 := cell_below p0 hbx
  replace p1 := cell_below p1 hbx
  replace q0 := cell_below q0 hbx
  replace q1 := cell_below q1 hbx
  replace q2 := cell_below q2 hbx
  replace q3 := cell_below q3 hbx
  replace q4 := cell_below q4 hbx
  replace q5 := cell_below q5 hbx
  replace q6 := cell_below q6 hbx
  replace q7 := cell_below q7 hbx
  replace q8 := cell_below q8 hbx
  replace q9 := cell_below q9 hbx
  replace q10 := cell_below q10 hbx
  replace q11 := cell_below q11 hbx
  replace q12 := cell_below q12 hbx
  replace q13 := cell_below q13 hbx
  replace q14 := cell_below q14 hbx
  replace q15 := cell_below q15 hbx
  replace q16 := cell_below q16 hbx
  replace hb := below_onN hb hbx hb.size
  clear hbx
  go_wp2_with fail
  refine (HA.out _).mono ?_
  rintro e wz ⟨rfl, hbz⟩
  go_wp2_with fail
  go_ret
  exact ⟨rfl, below_onN hb hbz hb.size⟩

theorem wide_len {L N : Nat} (h : wideB L N 20 20 = false) : L ≤ 20 ∧ N ≤ 20 := by
  unfold wideB at h
  simp at h
  omega
/-- What stands behind the first eight statements. -/
def rest8 : Option Code → Option Code
  | some (.seq _ (.seq _ (.seq _ (.seq _ (.seq _ (.seq _ (.seq _ (.seq _ c)))))))) => some c
  | _ => none
set_option maxRecDepth 100000 in
set_option maxHeartbeats 40000000 in
theorem nightMore_d (ja : Option Addr) (js : List Jo) (jc : Nat) (na : Option Addr) (ns : List Ni) (nc : Nat) (x : Ni) (y : Jo) (t : Int) (w : World) (hJ : JobsS w ja js) (hN : NightsS w na ns) (bt0 : 0 ≤ t) (bt1 : t ≤ 255) (l1 : js.length ≤ 20) (l2 : ns.length ≤ 20) (he : errL js ns = 0) {M : Int} (hM : mostN js ns = M) (w9 : World)
    (p0 : w9.cell? ⟨w.heap.size, 0, none⟩ = some (.slice ja js.length jc)) (p1 : w9.cell? ⟨w.heap.size, 1, none⟩ = some (.slice na ns.length nc)) (q16 : w9.cell? ⟨w.heap.size + 1, 16, none⟩ = some (.int .u8 t)) (hb : Below w.heap.size w w9)
    {s7 s8 s9 s10 s11 s12 s13 s14 s15 s16 s17 s18 s19 s20 s21 s22 s23 s24 s25 s26 s27 s28 s29 s30 s31 s32 s33 s34 s35 s36 s37 s38 s39 s40 s41 s42 s43 s44 s45 s46 s47 s48 s49 s50 s51 s52 s53 s54 s55 s56 s57 s58 s59 s60 s61 s62 s63 s64 s65 s66 s67 s68 s69 s70 s71 s72 s73 s74 s75 s76 s77 s78 s79 s80 s81 s82 s83 s84 s85 s86 s87 s88 s89 s90 s91 s92 s93 s94 s95 s96 s97 s98 s99 s100 s101 s102 s103 s104 s105 s106 s107 s108 s109 s110 s111 s112 s113 s114 s115 s116 s117 s118 s119 s120 s121 s122 s123 s124 s125 s126 s127 s128 s129 s130 s131 s132 s133 s134 s135 s136 s137 s138 s139 s140 s141 s142 s143 s144 s145 s146 s147 s148 s149 s150 s151 s152 s153 s154 s155 s156 s157 s158 s159 s160 s161 s162 s163 s164 s165 s166 s167 s168 s169 s170 s171 s172 s173 s174 s175 s176 s177 s178 s179 s180 s181 s182 s183 s184 s185 s186 s187 s188 s189 s190 s191 s192 s193 s194 s195 s196 s197 s198 : Value} {c : Code} (hcode : rest8 (Try.f3).body = some c) :
    Code.wp Try.prog c (bodyPost Try.prog Try.f3 (fun e w' => e = .returned (.bool true) ∧ Below w.heap.size w w')) { tmps := #[.agg #[.slice ja js.length jc, .slice na ns.length nc], .agg #[.int .i64 x.d, .int .i64 x.r, .int .i64 x.f, .int .i64 x.t, .int .i64 x.w, .int .i64 x.p, .bool x.rn, .bool x.fr, .int .i64 y.n, .int .i64 y.r, .int .i64 y.c, .int .i64 y.f, .int .i64 y.l, .int .i64 y.w, .bool y.dy, .bool y.wm, .int .u8 t], .pointer (some ⟨w.heap.size, 0, none⟩), .pointer (some ⟨w.heap.size + 1, 0, none⟩), .bool false, .int .i64 M, .int .i64 0, s7, s8, s9, s10, s11, s12, s13, s14, s15, s16, s17, s18, s19, s20, s21, s22, s23, s24, s25, s26, s27, s28, s29, s30, s31, s32, s33, s34, s35, s36, s37, s38, s39, s40, s41, s42, s43, s44, s45, s46, s47, s48, s49, s50, s51, s52, s53, s54, s55, s56, s57, s58, s59, s60, s61, s62, s63, s64, s65, s66, s67, s68, s69, s70, s71, s72, s73, s74, s75, s76, s77, s78, s79, s80, s81, s82, s83, s84, s85, s86, s87, s88, s89, s90, s91, s92, s93, s94, s95, s96, s97, s98, s99, s100, s101, s102, s103, s104, s105, s106, s107, s108, s109, s110, s111, s112, s113, s114, s115, s116, s117, s118, s119, s120, s121, s122, s123, s124, s125, s126, s127, s128, s129, s130, s131, s132, s133, s134, s135, s136, s137, s138, s139, s140, s141, s142, s143, s144, s145, s146, s147, s148, s149, s150, s151, s152, s153, s154, s155, s156, s157, s158, s159, s160, s161, s162, s163, s164, s165, s166, s167, s168, s169, s170, s171, s172, s173, s174, s175, s176, s177, s178, s179, s180, s181, s182, s183, s184, s185, s186, s187, s188, s189, s190, s191, s192, s193, s194, s195, s196, s197, s198], defers := [] } w9 := by
  have key : ∀ {c' : Code}, rest8 (Try.f3).body = some c' → Code.wp Try.prog c' (bodyPost Try.prog Try.f3 (fun e w' => e = .returned (.bool true) ∧ Below w.heap.size w w')) { tmps := #[.agg #[.slice ja js.length jc, .slice na ns.length nc], .agg #[.int .i64 x.d, .int .i64 x.r, .int .i64 x.f, .int .i64 x.t, .int .i64 x.w, .int .i64 x.p, .bool x.rn, .bool x.fr, .int .i64 y.n, .int .i64 y.r, .int .i64 y.c, .int .i64 y.f, .int .i64 y.l, .int .i64 y.w, .bool y.dy, .bool y.wm, .int .u8 t], .pointer (some ⟨w.heap.size, 0, none⟩), .pointer (some ⟨w.heap.size + 1, 0, none⟩), .bool false, .int .i64 M, .int .i64 0, s7, s8, s9, s10, s11, s12, s13, s14, s15, s16, s17, s18, s19, s20, s21, s22, s23, s24, s25, s26, s27, s28, s29, s30, s31, s32, s33, s34, s35, s36, s37, s38, s39, s40, s41, s42, s43, s44, s45, s46, s47, s48, s49, s50, s51, s52, s53, s54, s55, s56, s57, s58, s59, s60, s61, s62, s63, s64, s65, s66, s67, s68, s69, s70, s71, s72, s73, s74, s75, s76, s77, s78, s79, s80, s81, s82, s83, s84, s85, s86, s87, s88, s89, s90, s91, s92, s93, s94, s95, s96, s97, s98, s99, s100, s101, s102, s103, s104, s105, s106, s107, s108, s109, s110, s111, s112, s113, s114, s115, s116, s117, s118, s119, s120, s121, s122, s123, s124, s125, s126, s127, s128, s129, s130, s131, s132, s133, s134, s135, s136, s137, s138, s139, s140, s141, s142, s143, s144, s145, s146, s147, s148, s149, s150, s151, s152, s153, s154, s155, s156, s157, s158, s159, s160, s161, s162, s163, s164, s165, s166, s167, s168, s169, s170, s171, s172, s173, s174, s175, s176, s177, s178, s179, s180, s181, s182, s183, s184, s185, s186, s187, s188, s189, s190, s191, s192, s193, s194, s195, s196, s197, s198], defers := [] } w9 → Code.wp Try.prog c (bodyPost Try.prog Try.f3 (fun e w' => e = .returned (.bool true) ∧ Below w.heap.size w w')) { tmps := #[.agg #[.slice ja js.length jc, .slice na ns.length nc], .agg #[.int .i64 x.d, .int .i64 x.r, .int .i64 x.f, .int .i64 x.t, .int .i64 x.w, .int .i64 x.p, .bool x.rn, .bool x.fr, .int .i64 y.n, .int .i64 y.r, .int .i64 y.c, .int .i64 y.f, .int .i64 y.l, .int .i64 y.w, .bool y.dy, .bool y.wm, .int .u8 t], .pointer (some ⟨w.heap.size, 0, none⟩), .pointer (some ⟨w.heap.size + 1, 0, none⟩), .bool false, .int .i64 M, .int .i64 0, s7, s8, s9, s10, s11, s12, s13, s14, s15, s16, s17, s18, s19, s20, s21, s22, s23, s24, s25, s26, s27, s28, s29, s30, s31, s32, s33, s34, s35, s36, s37, s38, s39, s40, s41, s42, s43, s44, s45, s46, s47, s48, s49, s50, s51, s52, s53, s54, s55, s56, s57, s58, s59, s60, s61, s62, s63, s64, s65, s66, s67, s68, s69, s70, s71, s72, s73, s74, s75, s76, s77, s78, s79, s80, s81, s82, s83, s84, s85, s86, s87, s88, s89, s90, s91, s92, s93, s94, s95, s96, s97, s98, s99, s100, s101, s102, s103, s104, s105, s106, s107, s108, s109, s110, s111, s112, s113, s114, s115, s116, s117, s118, s119, s120, s121, s122, s123, s124, s125, s126, s127, s128, s129, s130, s131, s132, s133, s134, s135, s136, s137, s138, s139, s140, s141, s142, s143, s144, s145, s146, s147, s148, s149, s150, s151, s152, s153, s154, s155, s156, s157, s158, s159, s160, s161, s162, s163, s164, s165, s166, s167, s168, s169, s170, s171, s172, s173, s174, s175, s176, s177, s178, s179, s180, s181, s182, s183, s184, s185, s186, s187, s188, s189, s190, s191, s192, s193, s194, s195, s196, s197, s198], defers := [] } w9 := by
    intro c' h1 h2
    rw [hcode] at h1
    cases h1
    exact h2
  refine key rfl ?_
  have HA := Lib.hid (fun W => awake_any W)
  have HmP := Lib.hid (fun i0 (hi : i0 < ns.length) => more_place (js := js) hi he)
  have HmD := Lib.hid (fun i0 (hi : i0 < js.length) => more_day (ns := ns) hi he)
  have HM0 := Lib.hid hM
  have HE0_ := Lib.hid he
  obtain ⟨mb0, mb1⟩ := most_bd he
  rw [hM] at mb0 mb1
  have HNS := Lib.hid (fun W (hW : Below w.heap.size w W) => hN.below hW)
  have HJS := Lib.hid (fun W (hW : Below w.heap.size w W) => hJ.below hW)
  clear he hM hJ hN key hcode
  go_upto_if 111 with (fail)
  go_cut [] (fun wx => Below w9.heap.size w9 wx)
  case first =>
    by_cases hz1 : 0 < ns.length
    rotate_left
    · have hzi : ¬ (0 < (ns.length : Int)) := by omega
      go_wp2_with fail
      go_meet
      exact Below.refl _ _
    · skip
      obtain ⟨i0, hi0⟩ : ∃ i0 : Nat, t % (ns.length : Int) = i0 := ⟨(t % (ns.length : Int)).toNat, by rw [Int.toNat_of_nonneg (Int.emod_nonneg _ (by omega))]⟩
      have hil : i0 < ns.length := by have := Int.emod_lt_of_pos t (show (0 : Int) < ns.length by omega); omega
      have HE := Lib.hid (World.ownsRow_made (base := w9.heap.size) (e := 27) (size := 8) w9 #[] 0 (Nat.le_refl _) (Nat.zero_le _) (by simp))
      have HS2 := Lib.hid (HNS.out _ (hb.alloc hb.size (.cells #[] 27)))
      obtain ⟨hM3, hM4, hM5⟩ := HmP.out i0 hil
      obtain ⟨hp1, hp2⟩ := night_pp HE0_.out hil
      have HC := Lib.hid (clN_c ns i0 hil)
      have HT := Lib.hid (clN_set ns i0 (min 100 ((gn ns i0).p + 1)) hil)
      generalize hL3 : ns.set i0 { gn ns i0 with p := min 100 ((gn ns i0).p + 1) } = L3 at *
      have hl3 : L3.length = ns.length := by rw [← hL3]; simp
      generalize (gn ns i0).p = pv at *
      obtain ⟨M3, hMM⟩ : ∃ M3, mV js L3 = M3 := ⟨_, rfl⟩
      have hlow : Hid (M ≤ M3 ∧ M3 ≤ M + 1) := Lib.hid (by
        rw [HM0.out] at hM4 hM5
        rw [← hMM]
        unfold mV
        rw [if_pos hM3]
        exact ⟨hM4, hM5⟩)
      have HM3 := Lib.hid hM3
      have HMM := Lib.hid hMM
      have Hl3 := Lib.hid hl3
      clear hM3 hM4 hM5 hL3 hMM hl3
      have hb6 := (Below.refl w9.heap.size w9).alloc (Nat.le_refl _) (.cells #[] 27)
      have HB6 := Lib.hid hb6
      clear hb6
      have hzq := block_lt q16
      have hzp := block_lt p0
      have Hp0_ := Lib.hid p0
      have Hp1_ := Lib.hid p1
      have Hq16_ := Lib.hid q16
      go_upto_region 16 with (at_builtin; go_loud (refine appN _ (by rfl) _ _ (by rfl) w9.heap.size (some ⟨w9.heap.size, 0, none⟩) 0 0 [] (by rfl) HE.out na ns nc (by rfl) HS2.out (by omega) (by simp) ?_); intro g c9 wg hown9 hb9)
      have hown9 : wg.ownsRow w9.heap.size 27 8 (.slice g ns.length c9) ns.length (clN ns) := by simpa using hown9
      have hbg : Below w9.heap.size w9 wg := HB6.out.trans hb9
      obtain ⟨gb, rfl, hgb⟩ := own_some hown9 hz1
      have cv : wg.cell? ⟨gb, i0 * 8 + 5, none⟩ = some (.int .i64 pv) := by rw [World.ownsRow.cellAt hown9 (i0 * 8 + 5) (by omega)]; exact HC.out.2.2.2.2.2.1
      have cf : wg.frozen? ⟨gb, i0 * 8 + 5, none⟩ = false := World.ownsRow.frozenAt hown9 _
      have hst := (World.ownsRow.stored hown9 (i0 * 8 + 5) (.int .i64 (min 100 (pv + 1)))).1
      rw [HT.out] at hst
      have HST := Lib.hid hst
      have HBG : Hid (Below w9.heap.size w9 (wg.setCell ⟨gb, i0 * 8 + 5, none⟩ (.int .i64 (min 100 (pv + 1))))) := Lib.hid (hbg.setCell hgb _)
      replace p0 := cell_below p0 hbg
      replace p1 := cell_below p1 hbg
      replace q16 := cell_below q16 hbg
      clear hown9 hst HB6 hb9 HC HT HE HS2
      go_upto_region 18 with (fail)
      obtain ⟨wh, hwh⟩ : ∃ wh, wg.setCell ⟨gb, i0 * 8 + 5, none⟩ (.int .i64 (min 100 (pv + 1))) = wh := ⟨_, rfl⟩
      rw [hwh] at HST HBG
      rw [hwh]
      clear hwh
      have hbh := HBG.out
      clear p0 p1 q16 cv cf hbg
      have p0 := cell_below Hp0_.out hbh
      have p1 := cell_below Hp1_.out hbh
      have q16 := cell_below Hq16_.out hbh
      have hbw := hb.trans (hbh.mono hb.size)
      have HM18 := most_any ja js jc (some ⟨gb, 0, none⟩) L3 c9 wh (HJS.out _ hbw) (ownN (by rw [Hl3.out]; exact HST.out) (by rw [Hl3.out]; omega)) (m := M3) (e := 0) HMM.out HM3.out
      rw [Hl3.out] at HM18
      have HM18 := Lib.hid HM18
      go_wp2_with fail
      refine HM18.out.mono ?_
      rintro e wi ⟨rfl, hbi⟩
      obtain ⟨g1, g2⟩ := hlow.out
      have g3 : ¬ M3 < M := by omega
      have g4 : ¬ M3 > M + 1 := by omega
      go_wp2_with fail
      go_meet
      exact hbh.trans (hbi.mono hbh.size)
  case rest =>
    have hbP := hcut
    obtain ⟨w10, rfl⟩ : ∃ w10 : World, w10 = wc := ⟨_, rfl⟩
    replace p0 := cell_below p0 hbP
    replace p1 := cell_below p1 hbP
    replace q16 := cell_below q16 hbP
    replace hb := hb.trans (hbP.mono hb.size)
    clear hbP
    go_upto_if 156 with (fail)
    go_cut [] (fun wx => Below w10.heap.size w10 wx)
    case first =>
      by_cases hz1 : 0 < js.length
      rotate_left
      · have hzi : ¬ (0 < (js.length : Int)) := by omega
        go_wp2_with fail
        go_meet
        exact Below.refl _ _
      · skip
        obtain ⟨i0, hi0⟩ : ∃ i0 : Nat, t % (js.length : Int) = i0 := ⟨(t % (js.length : Int)).toNat, by rw [Int.toNat_of_nonneg (Int.emod_nonneg _ (by omega))]⟩
        have hil : i0 < js.length := by have := Int.emod_lt_of_pos t (show (0 : Int) < js.length by omega); omega
        have HE := Lib.hid (World.ownsRow_made (base := w10.heap.size) (e := 29) (size := 8) w10 #[] 0 (Nat.le_refl _) (Nat.zero_le _) (by simp))
        have HS2 := Lib.hid (HJS.out _ (hb.alloc hb.size (.cells #[] 29)))
        obtain ⟨hM3, hM4, hM5⟩ := HmD.out i0 hil
        obtain ⟨hp1, hp2⟩ := job_l HE0_.out hil
        have HC := Lib.hid (clJ_c js i0 hil)
        have HT := Lib.hid (clJ_set js i0 (min 100000 ((gj js i0).l + 1)) hil)
        generalize hL3 : js.set i0 { gj js i0 with l := min 100000 ((gj js i0).l + 1) } = L3 at *
        have hl3 : L3.length = js.length := by rw [← hL3]; simp
        generalize (gj js i0).l = pv at *
        obtain ⟨M3, hMM⟩ : ∃ M3, mV L3 ns = M3 := ⟨_, rfl⟩
        have hlow : Hid (M ≤ M3 ∧ M3 ≤ M + 1) := Lib.hid (by
          rw [HM0.out] at hM4 hM5
          rw [← hMM]
          unfold mV
          rw [if_pos hM3]
          exact ⟨hM4, hM5⟩)
        have HM3 := Lib.hid hM3
        have HMM := Lib.hid hMM
        have Hl3 := Lib.hid hl3
        clear hM3 hM4 hM5 hL3 hMM hl3
        have hb6 := (Below.refl w10.heap.size w10).alloc (Nat.le_refl _) (.cells #[] 29)
        have HB6 := Lib.hid hb6
        clear hb6
        have hzq := block_lt q16
        have hzp := block_lt p0
        have Hp0_ := Lib.hid p0
        have Hp1_ := Lib.hid p1
        have Hq16_ := Lib.hid q16
        go_upto_region 23 with (at_builtin; go_loud (refine appJ _ (by rfl) _ _ (by rfl) w10.heap.size (some ⟨w10.heap.size, 0, none⟩) 0 0 [] (by rfl) HE.out ja js jc (by rfl) HS2.out (by omega) (by simp) ?_); intro g c9 wg hown9 hb9)
        have hown9 : wg.ownsRow w10.heap.size 29 8 (.slice g js.length c9) js.length (clJ js) := by simpa using hown9
        have hbg : Below w10.heap.size w10 wg := HB6.out.trans hb9
        obtain ⟨gb, rfl, hgb⟩ := own_some hown9 hz1
        have cv : wg.cell? ⟨gb, i0 * 8 + 4, none⟩ = some (.int .i64 pv) := by rw [World.ownsRow.cellAt hown9 (i0 * 8 + 4) (by omega)]; exact HC.out.2.2.2.2.1
        have cf : wg.frozen? ⟨gb, i0 * 8 + 4, none⟩ = false := World.ownsRow.frozenAt hown9 _
        have hst := (World.ownsRow.stored hown9 (i0 * 8 + 4) (.int .i64 (min 100000 (pv + 1)))).1
        rw [HT.out] at hst
        have HST := Lib.hid hst
        have HBG : Hid (Below w10.heap.size w10 (wg.setCell ⟨gb, i0 * 8 + 4, none⟩ (.int .i64 (min 100000 (pv + 1))))) := Lib.hid (hbg.setCell hgb _)
        replace p0 := cell_below p0 hbg
        replace p1 := cell_below p1 hbg
        replace q16 := cell_below q16 hbg
        clear hown9 hst HB6 hb9 HC HT HE HS2
        go_upto_region 25 with (fail)
        obtain ⟨wh, hwh⟩ : ∃ wh, wg.setCell ⟨gb, i0 * 8 + 4, none⟩ (.int .i64 (min 100000 (pv + 1))) = wh := ⟨_, rfl⟩
        rw [hwh] at HST HBG
        rw [hwh]
        clear hwh
        have hbh := HBG.out
        clear p0 p1 q16 cv cf hbg
        have p0 := cell_below Hp0_.out hbh
        have p1 := cell_below Hp1_.out hbh
        have q16 := cell_below Hq16_.out hbh
        have hbw := hb.trans (hbh.mono hb.size)
        have HM18 := most_any (some ⟨gb, 0, none⟩) L3 c9 na ns nc wh (ownJ (by rw [Hl3.out]; exact HST.out) (by rw [Hl3.out]; omega)) (HNS.out _ hbw) (m := M3) (e := 0) HMM.out HM3.out
        rw [Hl3.out] at HM18
        have HM18 := Lib.hid HM18
        go_wp2_with fail
        refine HM18.out.mono ?_
        rintro e wi ⟨rfl, hbi⟩
        obtain ⟨g1, g2⟩ := hlow.out
        have g3 : ¬ M3 < M := by omega
        have g4 : ¬ M3 > M + 1 := by omega
        go_wp2_with fail
        go_meet
        exact hbh.trans (hbi.mono hbh.size)
    case rest =>
      have hbP := hcut
      obtain ⟨w11, rfl⟩ : ∃ w11 : World, w11 = wc := ⟨_, rfl⟩
      replace p0 := cell_below p0 hbP
      replace p1 := cell_below p1 hbP
      replace q16 := cell_below q16 hbP
      replace hb := hb.trans (hbP.mono hb.size)
      clear hbP
      go_wp2_with fail
      refine (HA.out _).mono ?_
      rintro e wz ⟨rfl, hbz⟩
      go_wp2_with fail
      go_ret
      exact ⟨rfl, hb.trans (hbz.mono hb.size)⟩
set_option maxRecDepth 100000 in
set_option maxHeartbeats 40000000 in
theorem nightMore_c (ja : Option Addr) (js : List Jo) (jc : Nat) (na : Option Addr) (ns : List Ni) (nc : Nat) (x : Ni) (y : Jo) (t : Int) (w : World) (hJ : JobsS w ja js) (hN : NightsS w na ns) (bt0 : 0 ≤ t) (bt1 : t ≤ 255) (h0 : wideB js.length ns.length 20 20 = false) (h2 : (errL js ns == 0) = true) (M : Int) (hM : mV js ns = M) :
    Calls Try.prog 3 #[.agg #[.slice ja js.length jc, .slice na ns.length nc], .agg #[.int .i64 x.d, .int .i64 x.r, .int .i64 x.f, .int .i64 x.t, .int .i64 x.w, .int .i64 x.p, .bool x.rn, .bool x.fr, .int .i64 y.n, .int .i64 y.r, .int .i64 y.c, .int .i64 y.f, .int .i64 y.l, .int .i64 y.w, .bool y.dy, .bool y.wm, .int .u8 t]] w fun e w' => e = .returned (.bool true) ∧ Below w.heap.size w w' := by
  have HA := Lib.hid (fun W => awake_any W)
  have hjl := hJ.1
  have HW := Lib.hid (fun W => wide_v ja js.length jc na ns.length nc 20 20 W h0)
  have HV := Lib.hid (fun W (hW : Below w.heap.size w W) => refValid_r ja js jc na ns nc W (hJ.below hW) (hN.below hW) (v := true) h2)
  have he : errL js ns = 0 := by simpa using h2
  have hMV : mV js ns = mostN js ns := by unfold mV; rw [if_pos he]
  obtain ⟨l1, l2⟩ := wide_len h0
  have HM := Lib.hid (fun W (hW : Below w.heap.size w W) => most_any ja js jc na ns nc W (hJ.below hW) (hN.below hW) (m := M) (e := 0) hM he)
  have HmN := Lib.hid (more_night (x := x) he l2)
  have HmJ := Lib.hid (more_job (y := y) he)
  have HmP := Lib.hid (fun i0 (hi : i0 < ns.length) => more_place (js := js) hi he)
  have HmD := Lib.hid (fun i0 (hi : i0 < js.length) => more_day (ns := ns) hi he)
  have HM0 : Hid (mostN js ns = M) := Lib.hid (hMV.symm.trans hM)
  have HE0_ := Lib.hid he
  have HJN := Lib.hid (And.intro hJ hN)
  obtain ⟨mb0, mb1⟩ := most_bd he
  rw [hMV.symm.trans hM] at mb0 mb1
  have HNS := Lib.hid (fun W (hW : Below w.heap.size w W) => hN.below hW)
  have HJS := Lib.hid (fun W (hW : Below w.heap.size w W) => hJ.below hW)
  clear h0 h2 hM hMV hJ hN he
  obtain ⟨wB, hwB⟩ : ∃ wB, (w.alloc (.cells #[.slice ja js.length jc, .slice na ns.length nc] 25)).alloc (.cells #[.int .i64 x.d, .int .i64 x.r, .int .i64 x.f, .int .i64 x.t, .int .i64 x.w, .int .i64 x.p, .bool x.rn, .bool x.fr, .int .i64 y.n, .int .i64 y.r, .int .i64 y.c, .int .i64 y.f, .int .i64 y.l, .int .i64 y.w, .bool y.dy, .bool y.wm, .int .u8 t] 31) = wB := ⟨_, rfl⟩
  have hb : Below w.heap.size w wB := by rw [← hwB]; exact ((Below.refl _ _).alloc (Nat.le_refl _) _).alloc (by simp) _
  have p0 : wB.cell? ⟨w.heap.size, 0, none⟩ = some (.slice ja js.length jc) := by rw [← hwB]; simp [go_sem]
  have p1 : wB.cell? ⟨w.heap.size, 1, none⟩ = some (.slice na ns.length nc) := by rw [← hwB]; simp [go_sem]
  have q0 : wB.cell? ⟨w.heap.size + 1, 0, none⟩ = some (.int .i64 x.d) := by rw [← hwB]; simp [go_sem]
  have q1 : wB.cell? ⟨w.heap.size + 1, 1, none⟩ = some (.int .i64 x.r) := by rw [← hwB]; simp [go_sem]
  have q2 : wB.cell? ⟨w.heap.size + 1, 2, none⟩ = some (.int .i64 x.f) := by rw [← hwB]; simp [go_sem]
  have q3 : wB.cell? ⟨w.heap.size + 1, 3, none⟩ = some (.int .i64 x.t) := by rw [← hwB]; simp [go_sem]
  have q4 : wB.cell? ⟨w.heap.size + 1, 4, none⟩ = some (.int .i64 x.w) := by rw [← hwB]; simp [go_sem]
  have q5 : wB.cell? ⟨w.heap.size + 1, 5, none⟩ = some (.int .i64 x.p) := by rw [← hwB]; simp [go_sem]
  have q6 : wB.cell? ⟨w.heap.size + 1, 6, none⟩ = some (.bool x.rn) := by rw [← hwB]; simp [go_sem]
  have q7 : wB.cell? ⟨w.heap.size + 1, 7, none⟩ = some (.bool x.fr) := by rw [← hwB]; simp [go_sem]
  have q8 : wB.cell? ⟨w.heap.size + 1, 8, none⟩ = some (.int .i64 y.n) := by rw [← hwB]; simp [go_sem]
  have q9 : wB.cell? ⟨w.heap.size + 1, 9, none⟩ = some (.int .i64 y.r) := by rw [← hwB]; simp [go_sem]
  have q10 : wB.cell? ⟨w.heap.size + 1, 10, none⟩ = some (.int .i64 y.c) := by rw [← hwB]; simp [go_sem]
  have q11 : wB.cell? ⟨w.heap.size + 1, 11, none⟩ = some (.int .i64 y.f) := by rw [← hwB]; simp [go_sem]
  have q12 : wB.cell? ⟨w.heap.size + 1, 12, none⟩ = some (.int .i64 y.l) := by rw [← hwB]; simp [go_sem]
  have q13 : wB.cell? ⟨w.heap.size + 1, 13, none⟩ = some (.int .i64 y.w) := by rw [← hwB]; simp [go_sem]
  have q14 : wB.cell? ⟨w.heap.size + 1, 14, none⟩ = some (.bool y.dy) := by rw [← hwB]; simp [go_sem]
  have q15 : wB.cell? ⟨w.heap.size + 1, 15, none⟩ = some (.bool y.wm) := by rw [← hwB]; simp [go_sem]
  have q16 : wB.cell? ⟨w.heap.size + 1, 16, none⟩ = some (.int .u8 t) := by rw [← hwB]; simp [go_sem]

  go_enter Try.func3, Try.ntmps3
  go_wp2_with fail
  refine (HW.out _).mono ?_
  rintro e w1 ⟨rfl, hbx⟩
  replace p0 := cell_below p0 hbx
  replace p1 := cell_below p1 hbx
  replace q0 := cell_below q0 hbx
  replace q1 := cell_below q1 hbx
  replace q2 := cell_below q2 hbx
  replace q3 := cell_below q3 hbx
  replace q4 := cell_below q4 hbx
  replace q5 := cell_below q5 hbx
  replace q6 := cell_below q6 hbx
  replace q7 := cell_below q7 hbx
  replace q8 := cell_below q8 hbx
  replace q9 := cell_below q9 hbx
  replace q10 := cell_below q10 hbx
  replace q11 := cell_below q11 hbx
  replace q12 := cell_below q12 hbx
  replace q13 := cell_below q13 hbx
  replace q14 := cell_below q14 hbx
  replace q15 := cell_below q15 hbx
  replace q16 := cell_below q16 hbx
  replace hb := below_onN hb hbx hb.size
  clear hbx
  go_wp2_with fail
  refine (HV.out _ hb).mono ?_
  rintro e w2 ⟨rfl, hbx⟩
  replace p0 := cell_below p0 hbx
  replace p1 := cell_below p1 hbx
  replace q0 := cell_below q0 hbx
  replace q1 := cell_below q1 hbx
  replace q2 := cell_below q2 hbx
  replace q3 := cell_below q3 hbx
  replace q4 := cell_below q4 hbx
  replace q5 := cell_below q5 hbx
  replace q6 := cell_below q6 hbx
  replace q7 := cell_below q7 hbx
  replace q8 := cell_below q8 hbx
  replace q9 := cell_below q9 hbx
  replace q10 := cell_below q10 hbx
  replace q11 := cell_below q11 hbx
  replace q12 := cell_below q12 hbx
  replace q13 := cell_below q13 hbx
  replace q14 := cell_below q14 hbx
  replace q15 := cell_below q15 hbx
  replace q16 := cell_below q16 hbx
  replace hb := below_onN hb hbx hb.size
  clear hbx
  go_wp2_with fail
  refine (HM.out _ hb).mono ?_
  rintro e w3 ⟨rfl, hbx⟩
  replace p0 := cell_below p0 hbx
  replace p1 := cell_below p1 hbx
  replace q0 := cell_below q0 hbx
  replace q1 := cell_below q1 hbx
  replace q2 := cell_below q2 hbx
  replace q3 := cell_below q3 hbx
  replace q4 := cell_below q4 hbx
  replace q5 := cell_below q5 hbx
  replace q6 := cell_below q6 hbx
  replace q7 := cell_below q7 hbx
  replace q8 := cell_below q8 hbx
  replace q9 := cell_below q9 hbx
  replace q10 := cell_below q10 hbx
  replace q11 := cell_below q11 hbx
  replace q12 := cell_below q12 hbx
  replace q13 := cell_below q13 hbx
  replace q14 := cell_below q14 hbx
  replace q15 := cell_below q15 hbx
  replace q16 := cell_below q16 hbx
  replace hb := below_onN hb hbx hb.size
  clear hbx HW HV HM
  go_upto_region 6 with (fail)
  have Hp1 := Lib.hid p1
  have Hq0 := Lib.hid q0
  have Hq1 := Lib.hid q1
  have Hq2 := Lib.hid q2
  have Hq3 := Lib.hid q3
  have Hq4 := Lib.hid q4
  have Hq5 := Lib.hid q5
  have Hq6 := Lib.hid q6
  have Hq7 := Lib.hid q7
  have hbs := hb.size
  have HE0 : Hid ((w3.alloc (.cells #[] 27)).ownsRow w3.heap.size 27 8 (.slice (some ⟨w3.heap.size, 0, none⟩) 0 0) 0 []) := Lib.hid (World.ownsRow_made w3 #[] 0 (Nat.le_refl _) (Nat.zero_le _) (by simp))
  have HE1 : Hid (((w3.alloc (.cells #[.int .i64 x.d, .int .i64 x.r, .int .i64 x.f, .int .i64 x.t, .int .i64 x.w, .int .i64 x.p, .bool x.rn, .bool x.fr] 27)).alloc (.cells #[] 27)).ownsRow w3.heap.size 27 8 (.slice (some ⟨w3.heap.size + 1, 0, none⟩) 0 0) 0 []) := Lib.hid (by have := World.ownsRow_made (base := w3.heap.size) (e := 27) (size := 8) (w3.alloc (.cells #[.int .i64 x.d, .int .i64 x.r, .int .i64 x.f, .int .i64 x.t, .int .i64 x.w, .int .i64 x.p, .bool x.rn, .bool x.fr] 27)) #[] 0 (by simp) (Nat.zero_le _) (by simp); simpa using this)
  have HC1 : Hid (((w3.alloc (.cells #[] 27)).alloc (.cells #[.int .i64 x.d, .int .i64 x.r, .int .i64 x.f, .int .i64 x.t, .int .i64 x.w, .int .i64 x.p, .bool x.rn, .bool x.fr] 27)).heap[w3.heap.size + 1]? = some (.cells #[.int .i64 x.d, .int .i64 x.r, .int .i64 x.f, .int .i64 x.t, .int .i64 x.w, .int .i64 x.p, .bool x.rn, .bool x.fr] 27)) := Lib.hid (by have := heap_alloc_new (w3.alloc (.cells #[] 27)) (.cells #[.int .i64 x.d, .int .i64 x.r, .int .i64 x.f, .int .i64 x.t, .int .i64 x.w, .int .i64 x.p, .bool x.rn, .bool x.fr] 27); simpa using this)
  have HC0 : Hid (((w3.alloc (.cells #[.int .i64 x.d, .int .i64 x.r, .int .i64 x.f, .int .i64 x.t, .int .i64 x.w, .int .i64 x.p, .bool x.rn, .bool x.fr] 27)).alloc (.cells #[] 27)).heap[w3.heap.size]? = some (.cells #[.int .i64 x.d, .int .i64 x.r, .int .i64 x.f, .int .i64 x.t, .int .i64 x.w, .int .i64 x.p, .bool x.rn, .bool x.fr] 27)) := Lib.hid ((((Below.refl (w3.heap.size + 1) (w3.alloc (.cells #[.int .i64 x.d, .int .i64 x.r, .int .i64 x.f, .int .i64 x.t, .int .i64 x.w, .int .i64 x.p, .bool x.rn, .bool x.fr] 27))).alloc (by simp) (.cells #[] 27)).block w3.heap.size (by omega)).trans (heap_alloc_new w3 (.cells #[.int .i64 x.d, .int .i64 x.r, .int .i64 x.f, .int .i64 x.t, .int .i64 x.w, .int .i64 x.p, .bool x.rn, .bool x.fr] 27)))
  go_cut [7] (fun v wx => (∃ a c, v = .slice a (ns ++ [x]).length c) ∧ Hid (wx.ownsRow w3.heap.size 27 8 v (ns ++ [x]).length (clN (ns ++ [x]))) ∧ Below w3.heap.size w3 wx)
  case first =>
    go_region_held3 (fun w' => w'.cell? ⟨w.heap.size, 1, none⟩ = some (.slice na ns.length nc) ∧ w'.cell? ⟨w.heap.size + 1, 0, none⟩ = some (.int .i64 x.d) ∧ w'.cell? ⟨w.heap.size + 1, 1, none⟩ = some (.int .i64 x.r) ∧ w'.cell? ⟨w.heap.size + 1, 2, none⟩ = some (.int .i64 x.f) ∧ w'.cell? ⟨w.heap.size + 1, 3, none⟩ = some (.int .i64 x.t) ∧ w'.cell? ⟨w.heap.size + 1, 4, none⟩ = some (.int .i64 x.w) ∧ w'.cell? ⟨w.heap.size + 1, 5, none⟩ = some (.int .i64 x.p) ∧ w'.cell? ⟨w.heap.size + 1, 6, none⟩ = some (.bool x.rn) ∧ w'.cell? ⟨w.heap.size + 1, 7, none⟩ = some (.bool x.fr)) (go_keep)
      (first
        | (refine stepN (w := (w3.alloc (.cells #[] 27)).drew) (by rfl) _ _ (by rfl) w3.heap.size (some ⟨w3.heap.size, 0, none⟩) 0 0 [] (by rfl) (HE0.out.drew) na ns nc (by rfl) (HNS.out _ ((hb.alloc hbs _).drew)) ns.length (by simp) (by omega) (by first | omega | (simp; done) | (simp; omega)) ?_
           intro bU cU wU hownU hsameU hbU
           replace hbU : Below w3.heap.size w3 wU := (((Below.refl w3.heap.size w3).alloc (Nat.le_refl _) _).drew).trans hbU
           replace p1 := cell_below Hp1.out hbU
           replace q0 := cell_below Hq0.out hbU
           replace q1 := cell_below Hq1.out hbU
           replace q2 := cell_below Hq2.out hbU
           replace q3 := cell_below Hq3.out hbU
           replace q4 := cell_below Hq4.out hbU
           replace q5 := cell_below Hq5.out hbU
           replace q6 := cell_below Hq6.out hbU
           replace q7 := cell_below Hq7.out hbU
           have hcU := hbU.size
        )
        | (refine stepN (w := ((w3.alloc (.cells #[] 27)).alloc (.cells #[.int .i64 x.d, .int .i64 x.r, .int .i64 x.f, .int .i64 x.t, .int .i64 x.w, .int .i64 x.p, .bool x.rn, .bool x.fr] 27)).drew) (by rfl) _ _ (by rfl) w3.heap.size (some ⟨w3.heap.size, 0, none⟩) 0 0 [] (by rfl) ((HE0.out.alloc _).drew) na ns nc (by rfl) (HNS.out _ (((hb.alloc hbs _).alloc (by simp; omega) _).drew)) ns.length (by simp) (by omega) (by first | omega | (simp; done) | (simp; omega)) ?_
           intro bU cU wU hownU hsameU hbU
           replace hbU : Below w3.heap.size w3 wU := ((((Below.refl w3.heap.size w3).alloc (Nat.le_refl _) _).alloc (by simp) _).drew).trans hbU
           replace p1 := cell_below Hp1.out hbU
           replace q0 := cell_below Hq0.out hbU
           replace q1 := cell_below Hq1.out hbU
           replace q2 := cell_below Hq2.out hbU
           replace q3 := cell_below Hq3.out hbU
           replace q4 := cell_below Hq4.out hbU
           replace q5 := cell_below Hq5.out hbU
           replace q6 := cell_below Hq6.out hbU
           replace q7 := cell_below Hq7.out hbU
           have hcU := hbU.size
           have HXU : Hid (NightsS wU (some ⟨w3.heap.size + 1, 0, none⟩) [x]) := Lib.hid (loneN (fr := (0, 0)) ((hsameU (w3.heap.size + 1) (by first | (simp; done) | (simp; omega)) (by simp [Value.ownBlock])).trans HC1.out))
        )
        | (refine stepN (w := ((w3.alloc (.cells #[.int .i64 x.d, .int .i64 x.r, .int .i64 x.f, .int .i64 x.t, .int .i64 x.w, .int .i64 x.p, .bool x.rn, .bool x.fr] 27)).alloc (.cells #[] 27)).drew) (by rfl) _ _ (by rfl) w3.heap.size (some ⟨w3.heap.size + 1, 0, none⟩) 0 0 [] (by rfl) (HE1.out.drew) na ns nc (by rfl) (HNS.out _ (((hb.alloc hbs _).alloc (by simp; omega) _).drew)) ns.length (by simp) (by omega) (by first | omega | (simp; done) | (simp; omega)) ?_
           intro bU cU wU hownU hsameU hbU
           replace hbU : Below w3.heap.size w3 wU := ((((Below.refl w3.heap.size w3).alloc (Nat.le_refl _) _).alloc (by simp) _).drew).trans hbU
           replace p1 := cell_below Hp1.out hbU
           replace q0 := cell_below Hq0.out hbU
           replace q1 := cell_below Hq1.out hbU
           replace q2 := cell_below Hq2.out hbU
           replace q3 := cell_below Hq3.out hbU
           replace q4 := cell_below Hq4.out hbU
           replace q5 := cell_below Hq5.out hbU
           replace q6 := cell_below Hq6.out hbU
           replace q7 := cell_below Hq7.out hbU
           have hcU := hbU.size
           have HXU : Hid (NightsS wU (some ⟨w3.heap.size, 0, none⟩) [x]) := Lib.hid (loneN (fr := (0, 0)) ((hsameU w3.heap.size (by first | (simp; done) | (simp; omega)) (by simp [Value.ownBlock])).trans HC0.out))
        )
        | (refine stepN (w := (w3.alloc (.cells #[] 27))) (by rfl) _ _ (by rfl) w3.heap.size (some ⟨w3.heap.size, 0, none⟩) 0 0 [] (by rfl) (HE0.out) na ns nc (by rfl) (HNS.out _ ((hb.alloc hbs _))) ns.length (by simp) (by omega) (by first | omega | (simp; done) | (simp; omega)) ?_
           intro bU cU wU hownU hsameU hbU
           replace hbU : Below w3.heap.size w3 wU := (((Below.refl w3.heap.size w3).alloc (Nat.le_refl _) _)).trans hbU
           replace p1 := cell_below Hp1.out hbU
           replace q0 := cell_below Hq0.out hbU
           replace q1 := cell_below Hq1.out hbU
           replace q2 := cell_below Hq2.out hbU
           replace q3 := cell_below Hq3.out hbU
           replace q4 := cell_below Hq4.out hbU
           replace q5 := cell_below Hq5.out hbU
           replace q6 := cell_below Hq6.out hbU
           replace q7 := cell_below Hq7.out hbU
           have hcU := hbU.size
        )
        | (refine stepN (w := ((w3.alloc (.cells #[] 27)).alloc (.cells #[.int .i64 x.d, .int .i64 x.r, .int .i64 x.f, .int .i64 x.t, .int .i64 x.w, .int .i64 x.p, .bool x.rn, .bool x.fr] 27))) (by rfl) _ _ (by rfl) w3.heap.size (some ⟨w3.heap.size, 0, none⟩) 0 0 [] (by rfl) ((HE0.out.alloc _)) na ns nc (by rfl) (HNS.out _ (((hb.alloc hbs _).alloc (by simp; omega) _))) ns.length (by simp) (by omega) (by first | omega | (simp; done) | (simp; omega)) ?_
           intro bU cU wU hownU hsameU hbU
           replace hbU : Below w3.heap.size w3 wU := ((((Below.refl w3.heap.size w3).alloc (Nat.le_refl _) _).alloc (by simp) _)).trans hbU
           replace p1 := cell_below Hp1.out hbU
           replace q0 := cell_below Hq0.out hbU
           replace q1 := cell_below Hq1.out hbU
           replace q2 := cell_below Hq2.out hbU
           replace q3 := cell_below Hq3.out hbU
           replace q4 := cell_below Hq4.out hbU
           replace q5 := cell_below Hq5.out hbU
           replace q6 := cell_below Hq6.out hbU
           replace q7 := cell_below Hq7.out hbU
           have hcU := hbU.size
           have HXU : Hid (NightsS wU (some ⟨w3.heap.size + 1, 0, none⟩) [x]) := Lib.hid (loneN (fr := (0, 0)) ((hsameU (w3.heap.size + 1) (by first | (simp; done) | (simp; omega)) (by simp [Value.ownBlock])).trans HC1.out))
        )
        | (refine stepN (w := ((w3.alloc (.cells #[.int .i64 x.d, .int .i64 x.r, .int .i64 x.f, .int .i64 x.t, .int .i64 x.w, .int .i64 x.p, .bool x.rn, .bool x.fr] 27)).alloc (.cells #[] 27))) (by rfl) _ _ (by rfl) w3.heap.size (some ⟨w3.heap.size + 1, 0, none⟩) 0 0 [] (by rfl) (HE1.out) na ns nc (by rfl) (HNS.out _ (((hb.alloc hbs _).alloc (by simp; omega) _))) ns.length (by simp) (by omega) (by first | omega | (simp; done) | (simp; omega)) ?_
           intro bU cU wU hownU hsameU hbU
           replace hbU : Below w3.heap.size w3 wU := ((((Below.refl w3.heap.size w3).alloc (Nat.le_refl _) _).alloc (by simp) _)).trans hbU
           replace p1 := cell_below Hp1.out hbU
           replace q0 := cell_below Hq0.out hbU
           replace q1 := cell_below Hq1.out hbU
           replace q2 := cell_below Hq2.out hbU
           replace q3 := cell_below Hq3.out hbU
           replace q4 := cell_below Hq4.out hbU
           replace q5 := cell_below Hq5.out hbU
           replace q6 := cell_below Hq6.out hbU
           replace q7 := cell_below Hq7.out hbU
           have hcU := hbU.size
           have HXU : Hid (NightsS wU (some ⟨w3.heap.size, 0, none⟩) [x]) := Lib.hid (loneN (fr := (0, 0)) ((hsameU w3.heap.size (by first | (simp; done) | (simp; omega)) (by simp [Value.ownBlock])).trans HC0.out))
        )
        | (refine stepN (w := (wU.alloc (.cells #[.int .i64 x.d, .int .i64 x.r, .int .i64 x.f, .int .i64 x.t, .int .i64 x.w, .int .i64 x.p, .bool x.rn, .bool x.fr] 27)).drew) (by rfl) _ _ (by rfl) w3.heap.size bU ns.length cU _ (by rfl) ((hownU.alloc _).drew) (some ⟨wU.heap.size, 0, none⟩) [x] 1 (by rfl) ((loneN (heap_alloc_new _ _)).below ((Below.refl _ _).drew)) (ns.length + 1) (by simp) (by omega) (by first | omega | (simp; done) | (simp; omega)) ?_
           intro bV cV wV hownV _ hbV
           replace hbV : Below w3.heap.size w3 wV := ((hbU.alloc hcU _).drew).trans hbV
           replace p1 := cell_below Hp1.out hbV
           replace q0 := cell_below Hq0.out hbV
           replace q1 := cell_below Hq1.out hbV
           replace q2 := cell_below Hq2.out hbV
           replace q3 := cell_below Hq3.out hbV
           replace q4 := cell_below Hq4.out hbV
           replace q5 := cell_below Hq5.out hbV
           replace q6 := cell_below Hq6.out hbV
           replace q7 := cell_below Hq7.out hbV
        )
        | (refine stepN (w := wU.alloc (.cells #[.int .i64 x.d, .int .i64 x.r, .int .i64 x.f, .int .i64 x.t, .int .i64 x.w, .int .i64 x.p, .bool x.rn, .bool x.fr] 27)) (by rfl) _ _ (by rfl) w3.heap.size bU ns.length cU _ (by rfl) (hownU.alloc _) (some ⟨wU.heap.size, 0, none⟩) [x] 1 (by rfl) (loneN (heap_alloc_new _ _)) (ns.length + 1) (by simp) (by omega) (by first | omega | (simp; done) | (simp; omega)) ?_
           intro bV cV wV hownV _ hbV
           replace hbV : Below w3.heap.size w3 wV := (hbU.alloc hcU _).trans hbV
           replace p1 := cell_below Hp1.out hbV
           replace q0 := cell_below Hq0.out hbV
           replace q1 := cell_below Hq1.out hbV
           replace q2 := cell_below Hq2.out hbV
           replace q3 := cell_below Hq3.out hbV
           replace q4 := cell_below Hq4.out hbV
           replace q5 := cell_below Hq5.out hbV
           replace q6 := cell_below Hq6.out hbV
           replace q7 := cell_below Hq7.out hbV
        )
        | (refine stepN (w := wU.drew.alloc (.cells #[.int .i64 x.d, .int .i64 x.r, .int .i64 x.f, .int .i64 x.t, .int .i64 x.w, .int .i64 x.p, .bool x.rn, .bool x.fr] 27)) (by rfl) _ _ (by rfl) w3.heap.size bU ns.length cU _ (by rfl) (hownU.drew.alloc _) (some ⟨wU.heap.size, 0, none⟩) [x] 1 (by rfl) (loneN (heap_alloc_new _ _)) (ns.length + 1) (by simp) (by omega) (by first | omega | (simp; done) | (simp; omega)) ?_
           intro bV cV wV hownV _ hbV
           replace hbV : Below w3.heap.size w3 wV := (hbU.drew.alloc hcU _).trans hbV
           replace p1 := cell_below Hp1.out hbV
           replace q0 := cell_below Hq0.out hbV
           replace q1 := cell_below Hq1.out hbV
           replace q2 := cell_below Hq2.out hbV
           replace q3 := cell_below Hq3.out hbV
           replace q4 := cell_below Hq4.out hbV
           replace q5 := cell_below Hq5.out hbV
           replace q6 := cell_below Hq6.out hbV
           replace q7 := cell_below Hq7.out hbV
        )
        | (refine stepN (w := (wU.drew.alloc (.cells #[.int .i64 x.d, .int .i64 x.r, .int .i64 x.f, .int .i64 x.t, .int .i64 x.w, .int .i64 x.p, .bool x.rn, .bool x.fr] 27)).drew) (by rfl) _ _ (by rfl) w3.heap.size bU ns.length cU _ (by rfl) ((hownU.drew.alloc _).drew) (some ⟨wU.heap.size, 0, none⟩) [x] 1 (by rfl) ((loneN (heap_alloc_new _ _)).below ((Below.refl _ _).drew)) (ns.length + 1) (by simp) (by omega) (by first | omega | (simp; done) | (simp; omega)) ?_
           intro bV cV wV hownV _ hbV
           replace hbV : Below w3.heap.size w3 wV := ((hbU.drew.alloc hcU _).drew).trans hbV
           replace p1 := cell_below Hp1.out hbV
           replace q0 := cell_below Hq0.out hbV
           replace q1 := cell_below Hq1.out hbV
           replace q2 := cell_below Hq2.out hbV
           replace q3 := cell_below Hq3.out hbV
           replace q4 := cell_below Hq4.out hbV
           replace q5 := cell_below Hq5.out hbV
           replace q6 := cell_below Hq6.out hbV
           replace q7 := cell_below Hq7.out hbV
        )
        | (refine stepN (w := wU) (by rfl) _ _ (by rfl) w3.heap.size bU ns.length cU _ (by rfl) (hownU) (some ⟨w3.heap.size + 1, 0, none⟩) [x] 1 (by rfl) (HXU.out) (ns.length + 1) (by simp) (by omega) (by first | omega | (simp; done) | (simp; omega)) ?_
           intro bV cV wV hownV _ hbV
           replace hbV : Below w3.heap.size w3 wV := hbU.trans hbV
           replace p1 := cell_below Hp1.out hbV
           replace q0 := cell_below Hq0.out hbV
           replace q1 := cell_below Hq1.out hbV
           replace q2 := cell_below Hq2.out hbV
           replace q3 := cell_below Hq3.out hbV
           replace q4 := cell_below Hq4.out hbV
           replace q5 := cell_below Hq5.out hbV
           replace q6 := cell_below Hq6.out hbV
           replace q7 := cell_below Hq7.out hbV
        )
        | (refine stepN (w := wU.drew) (by rfl) _ _ (by rfl) w3.heap.size bU ns.length cU _ (by rfl) (hownU.drew) (some ⟨w3.heap.size + 1, 0, none⟩) [x] 1 (by rfl) (HXU.out.below ((Below.refl _ _).drew)) (ns.length + 1) (by simp) (by omega) (by first | omega | (simp; done) | (simp; omega)) ?_
           intro bV cV wV hownV _ hbV
           replace hbV : Below w3.heap.size w3 wV := hbU.drew.trans hbV
           replace p1 := cell_below Hp1.out hbV
           replace q0 := cell_below Hq0.out hbV
           replace q1 := cell_below Hq1.out hbV
           replace q2 := cell_below Hq2.out hbV
           replace q3 := cell_below Hq3.out hbV
           replace q4 := cell_below Hq4.out hbV
           replace q5 := cell_below Hq5.out hbV
           replace q6 := cell_below Hq6.out hbV
           replace q7 := cell_below Hq7.out hbV
        )
        | (refine stepN (w := wU) (by rfl) _ _ (by rfl) w3.heap.size bU ns.length cU _ (by rfl) (hownU) (some ⟨w3.heap.size, 0, none⟩) [x] 1 (by rfl) (HXU.out) (ns.length + 1) (by simp) (by omega) (by first | omega | (simp; done) | (simp; omega)) ?_
           intro bV cV wV hownV _ hbV
           replace hbV : Below w3.heap.size w3 wV := hbU.trans hbV
           replace p1 := cell_below Hp1.out hbV
           replace q0 := cell_below Hq0.out hbV
           replace q1 := cell_below Hq1.out hbV
           replace q2 := cell_below Hq2.out hbV
           replace q3 := cell_below Hq3.out hbV
           replace q4 := cell_below Hq4.out hbV
           replace q5 := cell_below Hq5.out hbV
           replace q6 := cell_below Hq6.out hbV
           replace q7 := cell_below Hq7.out hbV
        )
        | (refine stepN (w := wU.drew) (by rfl) _ _ (by rfl) w3.heap.size bU ns.length cU _ (by rfl) (hownU.drew) (some ⟨w3.heap.size, 0, none⟩) [x] 1 (by rfl) (HXU.out.below ((Below.refl _ _).drew)) (ns.length + 1) (by simp) (by omega) (by first | omega | (simp; done) | (simp; omega)) ?_
           intro bV cV wV hownV _ hbV
           replace hbV : Below w3.heap.size w3 wV := hbU.drew.trans hbV
           replace p1 := cell_below Hp1.out hbV
           replace q0 := cell_below Hq0.out hbV
           replace q1 := cell_below Hq1.out hbV
           replace q2 := cell_below Hq2.out hbV
           replace q3 := cell_below Hq3.out hbV
           replace q4 := cell_below Hq4.out hbV
           replace q5 := cell_below Hq5.out hbV
           replace q6 := cell_below Hq6.out hbV
           replace q7 := cell_below Hq7.out hbV
        ))
    all_goals
      go_wp2_with fail
      go_meet
      exact ⟨⟨bV, cV, by simp⟩, Lib.hid (by have h := hownV; simpa [clN_app] using h), hbV⟩
  case rest =>
    obtain ⟨⟨b3, c3, rfl⟩, HR3, hbP⟩ := hcut
    obtain ⟨w4, rfl⟩ : ∃ w4 : World, w4 = wc := ⟨_, rfl⟩
    clear HE0 HE1 HC0 HC1 hbs Hp1 Hq0 Hq1 Hq2 Hq3 Hq4 Hq5 Hq6 Hq7
    replace p0 := cell_below p0 hbP
    replace p1 := cell_below p1 hbP
    replace q0 := cell_below q0 hbP
    replace q1 := cell_below q1 hbP
    replace q2 := cell_below q2 hbP
    replace q3 := cell_below q3 hbP
    replace q4 := cell_below q4 hbP
    replace q5 := cell_below q5 hbP
    replace q6 := cell_below q6 hbP
    replace q7 := cell_below q7 hbP
    replace q8 := cell_below q8 hbP
    replace q9 := cell_below q9 hbP
    replace q10 := cell_below q10 hbP
    replace q11 := cell_below q11 hbP
    replace q12 := cell_below q12 hbP
    replace q13 := cell_below q13 hbP
    replace q14 := cell_below q14 hbP
    replace q15 := cell_below q15 hbP
    replace q16 := cell_below q16 hbP
    replace hb := hb.trans (hbP.mono hb.size)
    clear hbP
    have hlen1 : (ns ++ [x]).length = ns.length + 1 := by simp
    generalize hL1 : ns ++ [x] = L1 at *
    have HL1 := Lib.hid hL1
    clear hL1
    obtain ⟨M1, hM1⟩ : ∃ M1, mV js L1 = M1 := ⟨_, rfl⟩
    obtain ⟨E1, hE1⟩ : ∃ E1, errL js L1 = E1 := ⟨_, rfl⟩
    have HM7 := Lib.hid (most_any ja js jc b3 L1 c3 w4 (HJS.out _ hb) (ownN HR3.out (by omega)) hM1 hE1)
    have hlow : Hid (E1 = 0 → M ≤ M1) := Lib.hid fun h => by
      have h := hE1.trans h
      have := HmN.out.1 h
      rw [HM0.out] at this
      rw [← hM1]
      unfold mV
      rw [if_pos h]
      exact this
    have hngt : Hid (E1 ≠ 0 → nightB x = false) := Lib.hid fun h => HmN.out.2 (fun e => h (hE1.symm.trans e))
    have HNX := Lib.hid (fun W => refNight_r x W)
    clear HR3 hM1 hE1 HmN
    have HLEN1 := Lib.hid hlen1
    clear hlen1
    go_wp2_with fail
    refine HM7.out.mono ?_
    rintro e w5 ⟨rfl, hbx⟩
    replace p0 := cell_below p0 hbx
    replace p1 := cell_below p1 hbx
    replace q0 := cell_below q0 hbx
    replace q1 := cell_below q1 hbx
    replace q2 := cell_below q2 hbx
    replace q3 := cell_below q3 hbx
    replace q4 := cell_below q4 hbx
    replace q5 := cell_below q5 hbx
    replace q6 := cell_below q6 hbx
    replace q7 := cell_below q7 hbx
    replace q8 := cell_below q8 hbx
    replace q9 := cell_below q9 hbx
    replace q10 := cell_below q10 hbx
    replace q11 := cell_below q11 hbx
    replace q12 := cell_below q12 hbx
    replace q13 := cell_below q13 hbx
    replace q14 := cell_below q14 hbx
    replace q15 := cell_below q15 hbx
    replace q16 := cell_below q16 hbx
    replace hb := hb.trans (hbx.mono hb.size)
    clear hbx HM7
    go_upto_region 8 with (fail)
    go_cut [70] (fun v wx => v = .bool false ∧ Below w5.heap.size w5 wx)
    case first =>
      by_cases h : E1 = 0
      · subst h
        have g1 := hlow.out rfl
        have g3 : ¬ M1 < M := by omega
        clear hlow hngt HNX
        go_wp2_with fail
        go_meet
        exact ⟨rfl, Below.refl _ _⟩
      · have g1 : (E1 == 0) = false := by simpa using h
        have g2 : (E1 != 0) = true := by simpa using h
        rw [hngt.out h] at HNX
        clear hlow hngt h
        go_wp2_with fail
        refine (HNX.out _).mono ?_
        rintro e w6 ⟨rfl, hb6⟩
        go_wp2_with fail
        go_meet
        exact ⟨rfl, hb6⟩
    case rest =>
      obtain ⟨rfl, hbP⟩ := hcut
      obtain ⟨w6, rfl⟩ : ∃ w6 : World, w6 = wc := ⟨_, rfl⟩
      replace p0 := cell_below p0 hbP
      replace p1 := cell_below p1 hbP
      replace q8 := cell_below q8 hbP
      replace q9 := cell_below q9 hbP
      replace q10 := cell_below q10 hbP
      replace q11 := cell_below q11 hbP
      replace q12 := cell_below q12 hbP
      replace q13 := cell_below q13 hbP
      replace q14 := cell_below q14 hbP
      replace q15 := cell_below q15 hbP
      replace q16 := cell_below q16 hbP
      replace hb := hb.trans (hbP.mono hb.size)
      clear hbP hlow hngt HNX q0 q1 q2 q3 q4 q5 q6 q7
      go_upto_region 10 with (fail)
      have Hp0 := Lib.hid p0
      have Hq8 := Lib.hid q8
      have Hq9 := Lib.hid q9
      have Hq10 := Lib.hid q10
      have Hq11 := Lib.hid q11
      have Hq12 := Lib.hid q12
      have Hq13 := Lib.hid q13
      have Hq14 := Lib.hid q14
      have Hq15 := Lib.hid q15
      have hbs := hb.size
      have HE0 : Hid ((w6.alloc (.cells #[] 29)).ownsRow w6.heap.size 29 8 (.slice (some ⟨w6.heap.size, 0, none⟩) 0 0) 0 []) := Lib.hid (World.ownsRow_made w6 #[] 0 (Nat.le_refl _) (Nat.zero_le _) (by simp))
      have HE1 : Hid (((w6.alloc (.cells #[.int .i64 y.n, .int .i64 y.r, .int .i64 y.c, .int .i64 y.f, .int .i64 y.l, .int .i64 y.w, .bool y.dy, .bool y.wm] 29)).alloc (.cells #[] 29)).ownsRow w6.heap.size 29 8 (.slice (some ⟨w6.heap.size + 1, 0, none⟩) 0 0) 0 []) := Lib.hid (by have := World.ownsRow_made (base := w6.heap.size) (e := 29) (size := 8) (w6.alloc (.cells #[.int .i64 y.n, .int .i64 y.r, .int .i64 y.c, .int .i64 y.f, .int .i64 y.l, .int .i64 y.w, .bool y.dy, .bool y.wm] 29)) #[] 0 (by simp) (Nat.zero_le _) (by simp); simpa using this)
      have HC1 : Hid (((w6.alloc (.cells #[] 29)).alloc (.cells #[.int .i64 y.n, .int .i64 y.r, .int .i64 y.c, .int .i64 y.f, .int .i64 y.l, .int .i64 y.w, .bool y.dy, .bool y.wm] 29)).heap[w6.heap.size + 1]? = some (.cells #[.int .i64 y.n, .int .i64 y.r, .int .i64 y.c, .int .i64 y.f, .int .i64 y.l, .int .i64 y.w, .bool y.dy, .bool y.wm] 29)) := Lib.hid (by have := heap_alloc_new (w6.alloc (.cells #[] 29)) (.cells #[.int .i64 y.n, .int .i64 y.r, .int .i64 y.c, .int .i64 y.f, .int .i64 y.l, .int .i64 y.w, .bool y.dy, .bool y.wm] 29); simpa using this)
      have HC0 : Hid (((w6.alloc (.cells #[.int .i64 y.n, .int .i64 y.r, .int .i64 y.c, .int .i64 y.f, .int .i64 y.l, .int .i64 y.w, .bool y.dy, .bool y.wm] 29)).alloc (.cells #[] 29)).heap[w6.heap.size]? = some (.cells #[.int .i64 y.n, .int .i64 y.r, .int .i64 y.c, .int .i64 y.f, .int .i64 y.l, .int .i64 y.w, .bool y.dy, .bool y.wm] 29)) := Lib.hid ((((Below.refl (w6.heap.size + 1) (w6.alloc (.cells #[.int .i64 y.n, .int .i64 y.r, .int .i64 y.c, .int .i64 y.f, .int .i64 y.l, .int .i64 y.w, .bool y.dy, .bool y.wm] 29))).alloc (by simp) (.cells #[] 29)).block w6.heap.size (by omega)).trans (heap_alloc_new w6 (.cells #[.int .i64 y.n, .int .i64 y.r, .int .i64 y.c, .int .i64 y.f, .int .i64 y.l, .int .i64 y.w, .bool y.dy, .bool y.wm] 29)))
      go_cut [10] (fun v wx => (∃ a c, v = .slice a (js ++ [y]).length c) ∧ Hid (wx.ownsRow w6.heap.size 29 8 v (js ++ [y]).length (clJ (js ++ [y]))) ∧ Below w6.heap.size w6 wx)
      case first =>
        go_region_held3 (fun w' => w'.cell? ⟨w.heap.size, 0, none⟩ = some (.slice ja js.length jc) ∧ w'.cell? ⟨w.heap.size + 1, 8, none⟩ = some (.int .i64 y.n) ∧ w'.cell? ⟨w.heap.size + 1, 9, none⟩ = some (.int .i64 y.r) ∧ w'.cell? ⟨w.heap.size + 1, 10, none⟩ = some (.int .i64 y.c) ∧ w'.cell? ⟨w.heap.size + 1, 11, none⟩ = some (.int .i64 y.f) ∧ w'.cell? ⟨w.heap.size + 1, 12, none⟩ = some (.int .i64 y.l) ∧ w'.cell? ⟨w.heap.size + 1, 13, none⟩ = some (.int .i64 y.w) ∧ w'.cell? ⟨w.heap.size + 1, 14, none⟩ = some (.bool y.dy) ∧ w'.cell? ⟨w.heap.size + 1, 15, none⟩ = some (.bool y.wm)) (go_keep)
          (first
            | (refine stepJ (w := (w6.alloc (.cells #[] 29)).drew) (by rfl) _ _ (by rfl) w6.heap.size (some ⟨w6.heap.size, 0, none⟩) 0 0 [] (by rfl) (HE0.out.drew) ja js jc (by rfl) (HJS.out _ ((hb.alloc hbs _).drew)) js.length (by simp) (by omega) (by first | omega | (simp; done) | (simp; omega)) ?_
               intro bU cU wU hownU hsameU hbU
               replace hbU : Below w6.heap.size w6 wU := (((Below.refl w6.heap.size w6).alloc (Nat.le_refl _) _).drew).trans hbU
               replace p0 := cell_below Hp0.out hbU
               replace q8 := cell_below Hq8.out hbU
               replace q9 := cell_below Hq9.out hbU
               replace q10 := cell_below Hq10.out hbU
               replace q11 := cell_below Hq11.out hbU
               replace q12 := cell_below Hq12.out hbU
               replace q13 := cell_below Hq13.out hbU
               replace q14 := cell_below Hq14.out hbU
               replace q15 := cell_below Hq15.out hbU
               have hcU := hbU.size
            )
            | (refine stepJ (w := ((w6.alloc (.cells #[] 29)).alloc (.cells #[.int .i64 y.n, .int .i64 y.r, .int .i64 y.c, .int .i64 y.f, .int .i64 y.l, .int .i64 y.w, .bool y.dy, .bool y.wm] 29)).drew) (by rfl) _ _ (by rfl) w6.heap.size (some ⟨w6.heap.size, 0, none⟩) 0 0 [] (by rfl) ((HE0.out.alloc _).drew) ja js jc (by rfl) (HJS.out _ (((hb.alloc hbs _).alloc (by simp; omega) _).drew)) js.length (by simp) (by omega) (by first | omega | (simp; done) | (simp; omega)) ?_
               intro bU cU wU hownU hsameU hbU
               replace hbU : Below w6.heap.size w6 wU := ((((Below.refl w6.heap.size w6).alloc (Nat.le_refl _) _).alloc (by simp) _).drew).trans hbU
               replace p0 := cell_below Hp0.out hbU
               replace q8 := cell_below Hq8.out hbU
               replace q9 := cell_below Hq9.out hbU
               replace q10 := cell_below Hq10.out hbU
               replace q11 := cell_below Hq11.out hbU
               replace q12 := cell_below Hq12.out hbU
               replace q13 := cell_below Hq13.out hbU
               replace q14 := cell_below Hq14.out hbU
               replace q15 := cell_below Hq15.out hbU
               have hcU := hbU.size
               have HXU : Hid (JobsS wU (some ⟨w6.heap.size + 1, 0, none⟩) [y]) := Lib.hid (loneJ (fr := (0, 0)) ((hsameU (w6.heap.size + 1) (by first | (simp; done) | (simp; omega)) (by simp [Value.ownBlock])).trans HC1.out))
            )
            | (refine stepJ (w := ((w6.alloc (.cells #[.int .i64 y.n, .int .i64 y.r, .int .i64 y.c, .int .i64 y.f, .int .i64 y.l, .int .i64 y.w, .bool y.dy, .bool y.wm] 29)).alloc (.cells #[] 29)).drew) (by rfl) _ _ (by rfl) w6.heap.size (some ⟨w6.heap.size + 1, 0, none⟩) 0 0 [] (by rfl) (HE1.out.drew) ja js jc (by rfl) (HJS.out _ (((hb.alloc hbs _).alloc (by simp; omega) _).drew)) js.length (by simp) (by omega) (by first | omega | (simp; done) | (simp; omega)) ?_
               intro bU cU wU hownU hsameU hbU
               replace hbU : Below w6.heap.size w6 wU := ((((Below.refl w6.heap.size w6).alloc (Nat.le_refl _) _).alloc (by simp) _).drew).trans hbU
               replace p0 := cell_below Hp0.out hbU
               replace q8 := cell_below Hq8.out hbU
               replace q9 := cell_below Hq9.out hbU
               replace q10 := cell_below Hq10.out hbU
               replace q11 := cell_below Hq11.out hbU
               replace q12 := cell_below Hq12.out hbU
               replace q13 := cell_below Hq13.out hbU
               replace q14 := cell_below Hq14.out hbU
               replace q15 := cell_below Hq15.out hbU
               have hcU := hbU.size
               have HXU : Hid (JobsS wU (some ⟨w6.heap.size, 0, none⟩) [y]) := Lib.hid (loneJ (fr := (0, 0)) ((hsameU w6.heap.size (by first | (simp; done) | (simp; omega)) (by simp [Value.ownBlock])).trans HC0.out))
            )
            | (refine stepJ (w := (w6.alloc (.cells #[] 29))) (by rfl) _ _ (by rfl) w6.heap.size (some ⟨w6.heap.size, 0, none⟩) 0 0 [] (by rfl) (HE0.out) ja js jc (by rfl) (HJS.out _ ((hb.alloc hbs _))) js.length (by simp) (by omega) (by first | omega | (simp; done) | (simp; omega)) ?_
               intro bU cU wU hownU hsameU hbU
               replace hbU : Below w6.heap.size w6 wU := (((Below.refl w6.heap.size w6).alloc (Nat.le_refl _) _)).trans hbU
               replace p0 := cell_below Hp0.out hbU
               replace q8 := cell_below Hq8.out hbU
               replace q9 := cell_below Hq9.out hbU
               replace q10 := cell_below Hq10.out hbU
               replace q11 := cell_below Hq11.out hbU
               replace q12 := cell_below Hq12.out hbU
               replace q13 := cell_below Hq13.out hbU
               replace q14 := cell_below Hq14.out hbU
               replace q15 := cell_below Hq15.out hbU
               have hcU := hbU.size
            )
            | (refine stepJ (w := ((w6.alloc (.cells #[] 29)).alloc (.cells #[.int .i64 y.n, .int .i64 y.r, .int .i64 y.c, .int .i64 y.f, .int .i64 y.l, .int .i64 y.w, .bool y.dy, .bool y.wm] 29))) (by rfl) _ _ (by rfl) w6.heap.size (some ⟨w6.heap.size, 0, none⟩) 0 0 [] (by rfl) ((HE0.out.alloc _)) ja js jc (by rfl) (HJS.out _ (((hb.alloc hbs _).alloc (by simp; omega) _))) js.length (by simp) (by omega) (by first | omega | (simp; done) | (simp; omega)) ?_
               intro bU cU wU hownU hsameU hbU
               replace hbU : Below w6.heap.size w6 wU := ((((Below.refl w6.heap.size w6).alloc (Nat.le_refl _) _).alloc (by simp) _)).trans hbU
               replace p0 := cell_below Hp0.out hbU
               replace q8 := cell_below Hq8.out hbU
               replace q9 := cell_below Hq9.out hbU
               replace q10 := cell_below Hq10.out hbU
               replace q11 := cell_below Hq11.out hbU
               replace q12 := cell_below Hq12.out hbU
               replace q13 := cell_below Hq13.out hbU
               replace q14 := cell_below Hq14.out hbU
               replace q15 := cell_below Hq15.out hbU
               have hcU := hbU.size
               have HXU : Hid (JobsS wU (some ⟨w6.heap.size + 1, 0, none⟩) [y]) := Lib.hid (loneJ (fr := (0, 0)) ((hsameU (w6.heap.size + 1) (by first | (simp; done) | (simp; omega)) (by simp [Value.ownBlock])).trans HC1.out))
            )
            | (refine stepJ (w := ((w6.alloc (.cells #[.int .i64 y.n, .int .i64 y.r, .int .i64 y.c, .int .i64 y.f, .int .i64 y.l, .int .i64 y.w, .bool y.dy, .bool y.wm] 29)).alloc (.cells #[] 29))) (by rfl) _ _ (by rfl) w6.heap.size (some ⟨w6.heap.size + 1, 0, none⟩) 0 0 [] (by rfl) (HE1.out) ja js jc (by rfl) (HJS.out _ (((hb.alloc hbs _).alloc (by simp; omega) _))) js.length (by simp) (by omega) (by first | omega | (simp; done) | (simp; omega)) ?_
               intro bU cU wU hownU hsameU hbU
               replace hbU : Below w6.heap.size w6 wU := ((((Below.refl w6.heap.size w6).alloc (Nat.le_refl _) _).alloc (by simp) _)).trans hbU
               replace p0 := cell_below Hp0.out hbU
               replace q8 := cell_below Hq8.out hbU
               replace q9 := cell_below Hq9.out hbU
               replace q10 := cell_below Hq10.out hbU
               replace q11 := cell_below Hq11.out hbU
               replace q12 := cell_below Hq12.out hbU
               replace q13 := cell_below Hq13.out hbU
               replace q14 := cell_below Hq14.out hbU
               replace q15 := cell_below Hq15.out hbU
               have hcU := hbU.size
               have HXU : Hid (JobsS wU (some ⟨w6.heap.size, 0, none⟩) [y]) := Lib.hid (loneJ (fr := (0, 0)) ((hsameU w6.heap.size (by first | (simp; done) | (simp; omega)) (by simp [Value.ownBlock])).trans HC0.out))
            )
            | (refine stepJ (w := (wU.alloc (.cells #[.int .i64 y.n, .int .i64 y.r, .int .i64 y.c, .int .i64 y.f, .int .i64 y.l, .int .i64 y.w, .bool y.dy, .bool y.wm] 29)).drew) (by rfl) _ _ (by rfl) w6.heap.size bU js.length cU _ (by rfl) ((hownU.alloc _).drew) (some ⟨wU.heap.size, 0, none⟩) [y] 1 (by rfl) ((loneJ (heap_alloc_new _ _)).below ((Below.refl _ _).drew)) (js.length + 1) (by simp) (by omega) (by first | omega | (simp; done) | (simp; omega)) ?_
               intro bV cV wV hownV _ hbV
               replace hbV : Below w6.heap.size w6 wV := ((hbU.alloc hcU _).drew).trans hbV
               replace p0 := cell_below Hp0.out hbV
               replace q8 := cell_below Hq8.out hbV
               replace q9 := cell_below Hq9.out hbV
               replace q10 := cell_below Hq10.out hbV
               replace q11 := cell_below Hq11.out hbV
               replace q12 := cell_below Hq12.out hbV
               replace q13 := cell_below Hq13.out hbV
               replace q14 := cell_below Hq14.out hbV
               replace q15 := cell_below Hq15.out hbV
            )
            | (refine stepJ (w := wU.alloc (.cells #[.int .i64 y.n, .int .i64 y.r, .int .i64 y.c, .int .i64 y.f, .int .i64 y.l, .int .i64 y.w, .bool y.dy, .bool y.wm] 29)) (by rfl) _ _ (by rfl) w6.heap.size bU js.length cU _ (by rfl) (hownU.alloc _) (some ⟨wU.heap.size, 0, none⟩) [y] 1 (by rfl) (loneJ (heap_alloc_new _ _)) (js.length + 1) (by simp) (by omega) (by first | omega | (simp; done) | (simp; omega)) ?_
               intro bV cV wV hownV _ hbV
               replace hbV : Below w6.heap.size w6 wV := (hbU.alloc hcU _).trans hbV
               replace p0 := cell_below Hp0.out hbV
               replace q8 := cell_below Hq8.out hbV
               replace q9 := cell_below Hq9.out hbV
               replace q10 := cell_below Hq10.out hbV
               replace q11 := cell_below Hq11.out hbV
               replace q12 := cell_below Hq12.out hbV
               replace q13 := cell_below Hq13.out hbV
               replace q14 := cell_below Hq14.out hbV
               replace q15 := cell_below Hq15.out hbV
            )
            | (refine stepJ (w := wU.drew.alloc (.cells #[.int .i64 y.n, .int .i64 y.r, .int .i64 y.c, .int .i64 y.f, .int .i64 y.l, .int .i64 y.w, .bool y.dy, .bool y.wm] 29)) (by rfl) _ _ (by rfl) w6.heap.size bU js.length cU _ (by rfl) (hownU.drew.alloc _) (some ⟨wU.heap.size, 0, none⟩) [y] 1 (by rfl) (loneJ (heap_alloc_new _ _)) (js.length + 1) (by simp) (by omega) (by first | omega | (simp; done) | (simp; omega)) ?_
               intro bV cV wV hownV _ hbV
               replace hbV : Below w6.heap.size w6 wV := (hbU.drew.alloc hcU _).trans hbV
               replace p0 := cell_below Hp0.out hbV
               replace q8 := cell_below Hq8.out hbV
               replace q9 := cell_below Hq9.out hbV
               replace q10 := cell_below Hq10.out hbV
               replace q11 := cell_below Hq11.out hbV
               replace q12 := cell_below Hq12.out hbV
               replace q13 := cell_below Hq13.out hbV
               replace q14 := cell_below Hq14.out hbV
               replace q15 := cell_below Hq15.out hbV
            )
            | (refine stepJ (w := (wU.drew.alloc (.cells #[.int .i64 y.n, .int .i64 y.r, .int .i64 y.c, .int .i64 y.f, .int .i64 y.l, .int .i64 y.w, .bool y.dy, .bool y.wm] 29)).drew) (by rfl) _ _ (by rfl) w6.heap.size bU js.length cU _ (by rfl) ((hownU.drew.alloc _).drew) (some ⟨wU.heap.size, 0, none⟩) [y] 1 (by rfl) ((loneJ (heap_alloc_new _ _)).below ((Below.refl _ _).drew)) (js.length + 1) (by simp) (by omega) (by first | omega | (simp; done) | (simp; omega)) ?_
               intro bV cV wV hownV _ hbV
               replace hbV : Below w6.heap.size w6 wV := ((hbU.drew.alloc hcU _).drew).trans hbV
               replace p0 := cell_below Hp0.out hbV
               replace q8 := cell_below Hq8.out hbV
               replace q9 := cell_below Hq9.out hbV
               replace q10 := cell_below Hq10.out hbV
               replace q11 := cell_below Hq11.out hbV
               replace q12 := cell_below Hq12.out hbV
               replace q13 := cell_below Hq13.out hbV
               replace q14 := cell_below Hq14.out hbV
               replace q15 := cell_below Hq15.out hbV
            )
            | (refine stepJ (w := wU) (by rfl) _ _ (by rfl) w6.heap.size bU js.length cU _ (by rfl) (hownU) (some ⟨w6.heap.size + 1, 0, none⟩) [y] 1 (by rfl) (HXU.out) (js.length + 1) (by simp) (by omega) (by first | omega | (simp; done) | (simp; omega)) ?_
               intro bV cV wV hownV _ hbV
               replace hbV : Below w6.heap.size w6 wV := hbU.trans hbV
               replace p0 := cell_below Hp0.out hbV
               replace q8 := cell_below Hq8.out hbV
               replace q9 := cell_below Hq9.out hbV
               replace q10 := cell_below Hq10.out hbV
               replace q11 := cell_below Hq11.out hbV
               replace q12 := cell_below Hq12.out hbV
               replace q13 := cell_below Hq13.out hbV
               replace q14 := cell_below Hq14.out hbV
               replace q15 := cell_below Hq15.out hbV
            )
            | (refine stepJ (w := wU.drew) (by rfl) _ _ (by rfl) w6.heap.size bU js.length cU _ (by rfl) (hownU.drew) (some ⟨w6.heap.size + 1, 0, none⟩) [y] 1 (by rfl) (HXU.out.below ((Below.refl _ _).drew)) (js.length + 1) (by simp) (by omega) (by first | omega | (simp; done) | (simp; omega)) ?_
               intro bV cV wV hownV _ hbV
               replace hbV : Below w6.heap.size w6 wV := hbU.drew.trans hbV
               replace p0 := cell_below Hp0.out hbV
               replace q8 := cell_below Hq8.out hbV
               replace q9 := cell_below Hq9.out hbV
               replace q10 := cell_below Hq10.out hbV
               replace q11 := cell_below Hq11.out hbV
               replace q12 := cell_below Hq12.out hbV
               replace q13 := cell_below Hq13.out hbV
               replace q14 := cell_below Hq14.out hbV
               replace q15 := cell_below Hq15.out hbV
            )
            | (refine stepJ (w := wU) (by rfl) _ _ (by rfl) w6.heap.size bU js.length cU _ (by rfl) (hownU) (some ⟨w6.heap.size, 0, none⟩) [y] 1 (by rfl) (HXU.out) (js.length + 1) (by simp) (by omega) (by first | omega | (simp; done) | (simp; omega)) ?_
               intro bV cV wV hownV _ hbV
               replace hbV : Below w6.heap.size w6 wV := hbU.trans hbV
               replace p0 := cell_below Hp0.out hbV
               replace q8 := cell_below Hq8.out hbV
               replace q9 := cell_below Hq9.out hbV
               replace q10 := cell_below Hq10.out hbV
               replace q11 := cell_below Hq11.out hbV
               replace q12 := cell_below Hq12.out hbV
               replace q13 := cell_below Hq13.out hbV
               replace q14 := cell_below Hq14.out hbV
               replace q15 := cell_below Hq15.out hbV
            )
            | (refine stepJ (w := wU.drew) (by rfl) _ _ (by rfl) w6.heap.size bU js.length cU _ (by rfl) (hownU.drew) (some ⟨w6.heap.size, 0, none⟩) [y] 1 (by rfl) (HXU.out.below ((Below.refl _ _).drew)) (js.length + 1) (by simp) (by omega) (by first | omega | (simp; done) | (simp; omega)) ?_
               intro bV cV wV hownV _ hbV
               replace hbV : Below w6.heap.size w6 wV := hbU.drew.trans hbV
               replace p0 := cell_below Hp0.out hbV
               replace q8 := cell_below Hq8.out hbV
               replace q9 := cell_below Hq9.out hbV
               replace q10 := cell_below Hq10.out hbV
               replace q11 := cell_below Hq11.out hbV
               replace q12 := cell_below Hq12.out hbV
               replace q13 := cell_below Hq13.out hbV
               replace q14 := cell_below Hq14.out hbV
               replace q15 := cell_below Hq15.out hbV
            ))
        all_goals
          go_wp2_with fail
          go_meet
          exact ⟨⟨bV, cV, by simp⟩, Lib.hid (by have h := hownV; simpa [clJ_app] using h), hbV⟩
      case rest =>
        obtain ⟨⟨b6, c6, rfl⟩, HR6, hbP⟩ := hcut
        obtain ⟨w7, rfl⟩ : ∃ w7 : World, w7 = wc := ⟨_, rfl⟩
        clear HE0 HE1 HC0 HC1 hbs Hp0 Hq8 Hq9 Hq10 Hq11 Hq12 Hq13 Hq14 Hq15
        replace p0 := cell_below p0 hbP
        replace p1 := cell_below p1 hbP
        replace q8 := cell_below q8 hbP
        replace q9 := cell_below q9 hbP
        replace q10 := cell_below q10 hbP
        replace q11 := cell_below q11 hbP
        replace q12 := cell_below q12 hbP
        replace q13 := cell_below q13 hbP
        replace q14 := cell_below q14 hbP
        replace q15 := cell_below q15 hbP
        replace q16 := cell_below q16 hbP
        replace hb := hb.trans (hbP.mono hb.size)
        clear hbP
        have hlen2 : (js ++ [y]).length = js.length + 1 := by simp
        generalize hL2 : js ++ [y] = L2 at *
        have HL2 := Lib.hid hL2
        clear hL2
        obtain ⟨M2, hM2⟩ : ∃ M2, mV L2 ns = M2 := ⟨_, rfl⟩
        obtain ⟨E2, hE2⟩ : ∃ E2, errL L2 ns = E2 := ⟨_, rfl⟩
        have HM11 := Lib.hid (most_any b6 L2 c6 na ns nc w7 (ownJ HR6.out (by omega)) (HNS.out _ hb) hM2 hE2)
        have hlow : Hid (E2 = 0 → M ≤ M2 ∧ M2 ≤ M + 1) := Lib.hid fun h => by
          have h := hE2.trans h
          have := HmJ.out
          rw [HM0.out] at this
          rw [← hM2]
          unfold mV
          rw [if_pos h]
          exact this
        have HRV := Lib.hid (fun W (hW : Below w7.heap.size w7 W) => refValid_r b6 L2 c6 na ns nc W ((ownJ HR6.out (by omega)).below hW) ((HNS.out _ hb).below hW) (v := (E2 == 0)) (by rw [hE2]))
        clear HR6 hM2 hE2 HmJ
        have HLEN2 := Lib.hid hlen2
        clear hlen2
        go_wp2_with fail
        refine HM11.out.mono ?_
        rintro e w8 ⟨rfl, hbx⟩
        have hbx2 := hbx
        replace p0 := cell_below p0 hbx
        replace p1 := cell_below p1 hbx
        replace q16 := cell_below q16 hbx
        replace hb := hb.trans (hbx.mono hb.size)
        clear hbx HM11 q8 q9 q10 q11 q12 q13 q14 q15
        go_upto_region 12 with (fail)
        go_cut [107] (fun v wx => v = .bool false ∧ Below w8.heap.size w8 wx)
        case first =>
          by_cases h : E2 = 0
          · subst h
            obtain ⟨g1, g2⟩ := hlow.out rfl
            have g3 : ¬ M2 < M := by omega
            have g4 : ¬ M2 > M + 1 := by omega
            clear hlow
            go_wp2_with fail
            refine (HRV.out _ hbx2).mono ?_
            rintro e w9 ⟨rfl, hb9⟩
            go_wp2_with fail
            go_meet
            exact ⟨rfl, hb9⟩
          · have g1 : (E2 == 0) = false := by simpa using h
            rw [g1] at HRV
            clear hlow h
            go_wp2_with fail
            refine (HRV.out _ hbx2).mono ?_
            rintro e w9 ⟨rfl, hb9⟩
            go_wp2_with fail
            go_meet
            exact ⟨rfl, hb9⟩
        case rest =>
          obtain ⟨rfl, hbP⟩ := hcut
          obtain ⟨w9, rfl⟩ : ∃ w9 : World, w9 = wc := ⟨_, rfl⟩
          replace p0 := cell_below p0 hbP
          replace p1 := cell_below p1 hbP
          replace q16 := cell_below q16 hbP
          replace hb := hb.trans (hbP.mono hb.size)
          clear hbP hbx2 HRV hlow
          refine ‹∀ (a : Act) (w : World), Code.wp Try.prog (Code.cond (Operand.tmp 107) _ _) _ a w → _› _ _ ?_
          go_step
          go_simp
          go_step
          refine ‹∀ (a : Act) (w : World), Code.wp Try.prog _ _ a w → _› _ _ ?_
          exact nightMore_d ja js jc na ns nc x y t w HJN.out.1 HJN.out.2 bt0 bt1 l1 l2 HE0_.out HM0.out w9 p0 p1 q16 hb rfl

theorem nightMore_any (ja : Option Addr) (js : List Jo) (jc : Nat) (na : Option Addr) (ns : List Ni) (nc : Nat) (x : Ni) (y : Jo) (t : Int) (w : World) (hJ : JobsS w ja js) (hN : NightsS w na ns) (bt0 : 0 ≤ t) (bt1 : t ≤ 255) :
    Calls Try.prog 3 #[.agg #[.slice ja js.length jc, .slice na ns.length nc], .agg #[.int .i64 x.d, .int .i64 x.r, .int .i64 x.f, .int .i64 x.t, .int .i64 x.w, .int .i64 x.p, .bool x.rn, .bool x.fr, .int .i64 y.n, .int .i64 y.r, .int .i64 y.c, .int .i64 y.f, .int .i64 y.l, .int .i64 y.w, .bool y.dy, .bool y.wm, .int .u8 t]] w fun e w' => e = .returned (.bool true) ∧ Below w.heap.size w w' := by
  cases h0 : wideB js.length ns.length 20 20 with
  | true => exact nightMore_a ja js jc na ns nc x y t w hJ hN bt0 bt1 h0
  | false =>
    cases h2 : (errL js ns == 0) with
    | false => exact nightMore_b ja js jc na ns nc x y t w hJ hN bt0 bt1 h0 h2
    | true => exact nightMore_c ja js jc na ns nc x y t w hJ hN bt0 bt1 h0 h2 _ rfl
end Go.Proofs.Ytkfefemlombejaa
