/-
  The symmetric merge behind its search. By an AI agent.
-/
import Derived.Test.YtghlhjiomebmhaaMgNightRight16
import Derived.Deep.RegionHeld3
import Derived.BigRegion
import Derived.BigQuiet
import Derived.Deep.DeepCutAuto

namespace Go.Proofs.Ytghlhjiomebmhaa
set_option linter.unusedVariables false
set_option linter.unusedSimpArgs false
open Go.RowKit

/-- What stands behind the first nine statements of the merge. -/
def rest9 : Option Code → Option Code
  | some (.seq _ (.seq _ (.seq _ (.seq _ (.seq _ (.seq _ (.seq _ (.seq _ (.seq _ c))))))))) => some c
  | _ => none
set_option maxRecDepth 100000 in
set_option maxHeartbeats 16000000 in
theorem merge_rest (lb : Array Value) (K : Int → Int) (Ok : Int → Prop) (g L cap a m b d s e D : Nat) (l : List Int) (w wr : World) (ham : a < m) (hmb : m < b) (hbL : b ≤ L) (hD : d - a ≤ D ∧ b - d ≤ D ∧ a ≤ d ∧ d ≤ b) (hL2 : L ≤ 100000) (g1 : a ≤ s) (g2 : s ≤ m) (g3 : s ≤ d) (g4 : m ≤ e) (g5 : e ≤ b) (g6 : d ≤ e)
    (HRo : Hid (∀ (w1 : World) (s e : Nat), PlanR w1 g l → s < m → m < e → e ≤ L → Calls Try.prog 77 #[.slice (some ⟨g, 0, none⟩) L cap, .int .i64 s, .int .i64 m, .int .i64 e, .func (.func 39) #[] lb] w1 fun E w' => FnE g w1 L (rotF (gi l) s m e) E w'))
    (HMg : Hid (∀ (a m b : Nat) (l : List Int) (w1 : World), b - a ≤ D → a < m → m < b → b ≤ L → PlanR w1 g l → l.length = L → Two g g w w1 → (∀ i, i < L → Ok (gi l i)) → SrtS K l a m → SrtS K l m b → XLo l a m b → Calls Try.prog 73 #[.slice (some ⟨g, 0, none⟩) L cap, .int .i64 a, .int .i64 m, .int .i64 b, .func (.func 39) #[] lb] w1 fun e w' => SoE K g w1 L a b l e w'))
    (HO : Hid (∀ i, i < L → Ok (gi l i))) (HL : Hid (l.length = L)) (HMid : Hid (∀ c : List Int, c.length = l.length → (∀ x, gi c x = rotF (gi l) s m e x) → Mid K l c a s d e b)) (HP : Hid (PlanR wr g l)) (hb : Two g g w wr)
    {s5 s6 s7 s8 s9 s10 s11 s12 s13 s14 s15 s16 s17 s19 s21 s22 s23 s25 s26 s27 s28 s29 s30 s31 s32 s33 s34 s35 s36 s37 s38 s39 s40 s41 s42 s43 s44 s45 s46 s47 s48 s49 s50 s51 s52 s53 s54 s55 s56 s57 s58 s59 s60 s61 s62 s63 s64 s65 s66 s67 s68 s69 s70 s71 s72 s73 s74 s75 s76 s77 s78 s79 s80 s81 s82 s83 s84 s85 s86 s87 s88 s89 s90 s91 s92 s93 s94 s95 s96 s97 s98 s99 s100 s101 s102 s103 s104 s105 s106 s107 s108 s109 s110 s111 s112 s113 s114 s115 s116 s117 s118 s119 s120 s121 s122 s123 s124 s125 s126 s127 s128 s129 s130 s131 s132 s133 s134 s135 s136 s137 s138 s139 s140 s141 s142 s143 s144 s145 s146 s147 s148 s149 s150 s151 s152 s153 s154 s155 s156 s157 s158 s159 s160 s161 s162 s163 s164 s165 s166 s167 s168 s169 s170 s171 s172 s173 s174 s175 s176 s177 s178 s179 s180 s181 s182 s183 s184 s185 s186 s187 s188 s189 s190 s191 s192 s193 s194 s195 s196 s197 s198 s199 s200 s201 s202 s203 s204 s205 s206 s207 s208 s209 s210 s211 s212 s213 s214 s215 s216 s217 s218 s219 : Value} {c : Code} (hcode : rest9 (Try.f73).body = some c) :
    Code.wp Try.prog c (bodyPost Try.prog Try.f73 (fun e w' => SoE K g w L a b l e w')) { tmps := #[.slice (some ⟨g, 0, none⟩) L cap, .int .i64 a, .int .i64 m, .int .i64 b, .func (.func 39) #[] lb, s5, s6, s7, s8, s9, s10, s11, s12, s13, s14, s15, s16, s17, .int .i64 d, s19, .int .i64 s, s21, s22, s23, .int .i64 e, s25, s26, s27, s28, s29, s30, s31, s32, s33, s34, s35, s36, s37, s38, s39, s40, s41, s42, s43, s44, s45, s46, s47, s48, s49, s50, s51, s52, s53, s54, s55, s56, s57, s58, s59, s60, s61, s62, s63, s64, s65, s66, s67, s68, s69, s70, s71, s72, s73, s74, s75, s76, s77, s78, s79, s80, s81, s82, s83, s84, s85, s86, s87, s88, s89, s90, s91, s92, s93, s94, s95, s96, s97, s98, s99, s100, s101, s102, s103, s104, s105, s106, s107, s108, s109, s110, s111, s112, s113, s114, s115, s116, s117, s118, s119, s120, s121, s122, s123, s124, s125, s126, s127, s128, s129, s130, s131, s132, s133, s134, s135, s136, s137, s138, s139, s140, s141, s142, s143, s144, s145, s146, s147, s148, s149, s150, s151, s152, s153, s154, s155, s156, s157, s158, s159, s160, s161, s162, s163, s164, s165, s166, s167, s168, s169, s170, s171, s172, s173, s174, s175, s176, s177, s178, s179, s180, s181, s182, s183, s184, s185, s186, s187, s188, s189, s190, s191, s192, s193, s194, s195, s196, s197, s198, s199, s200, s201, s202, s203, s204, s205, s206, s207, s208, s209, s210, s211, s212, s213, s214, s215, s216, s217, s218, s219], defers := [] } wr := by
  have key : ∀ {c' : Code}, rest9 (Try.f73).body = some c' → Code.wp Try.prog c' (bodyPost Try.prog Try.f73 (fun e w' => SoE K g w L a b l e w')) { tmps := #[.slice (some ⟨g, 0, none⟩) L cap, .int .i64 a, .int .i64 m, .int .i64 b, .func (.func 39) #[] lb, s5, s6, s7, s8, s9, s10, s11, s12, s13, s14, s15, s16, s17, .int .i64 d, s19, .int .i64 s, s21, s22, s23, .int .i64 e, s25, s26, s27, s28, s29, s30, s31, s32, s33, s34, s35, s36, s37, s38, s39, s40, s41, s42, s43, s44, s45, s46, s47, s48, s49, s50, s51, s52, s53, s54, s55, s56, s57, s58, s59, s60, s61, s62, s63, s64, s65, s66, s67, s68, s69, s70, s71, s72, s73, s74, s75, s76, s77, s78, s79, s80, s81, s82, s83, s84, s85, s86, s87, s88, s89, s90, s91, s92, s93, s94, s95, s96, s97, s98, s99, s100, s101, s102, s103, s104, s105, s106, s107, s108, s109, s110, s111, s112, s113, s114, s115, s116, s117, s118, s119, s120, s121, s122, s123, s124, s125, s126, s127, s128, s129, s130, s131, s132, s133, s134, s135, s136, s137, s138, s139, s140, s141, s142, s143, s144, s145, s146, s147, s148, s149, s150, s151, s152, s153, s154, s155, s156, s157, s158, s159, s160, s161, s162, s163, s164, s165, s166, s167, s168, s169, s170, s171, s172, s173, s174, s175, s176, s177, s178, s179, s180, s181, s182, s183, s184, s185, s186, s187, s188, s189, s190, s191, s192, s193, s194, s195, s196, s197, s198, s199, s200, s201, s202, s203, s204, s205, s206, s207, s208, s209, s210, s211, s212, s213, s214, s215, s216, s217, s218, s219], defers := [] } wr → Code.wp Try.prog c (bodyPost Try.prog Try.f73 (fun e w' => SoE K g w L a b l e w')) { tmps := #[.slice (some ⟨g, 0, none⟩) L cap, .int .i64 a, .int .i64 m, .int .i64 b, .func (.func 39) #[] lb, s5, s6, s7, s8, s9, s10, s11, s12, s13, s14, s15, s16, s17, .int .i64 d, s19, .int .i64 s, s21, s22, s23, .int .i64 e, s25, s26, s27, s28, s29, s30, s31, s32, s33, s34, s35, s36, s37, s38, s39, s40, s41, s42, s43, s44, s45, s46, s47, s48, s49, s50, s51, s52, s53, s54, s55, s56, s57, s58, s59, s60, s61, s62, s63, s64, s65, s66, s67, s68, s69, s70, s71, s72, s73, s74, s75, s76, s77, s78, s79, s80, s81, s82, s83, s84, s85, s86, s87, s88, s89, s90, s91, s92, s93, s94, s95, s96, s97, s98, s99, s100, s101, s102, s103, s104, s105, s106, s107, s108, s109, s110, s111, s112, s113, s114, s115, s116, s117, s118, s119, s120, s121, s122, s123, s124, s125, s126, s127, s128, s129, s130, s131, s132, s133, s134, s135, s136, s137, s138, s139, s140, s141, s142, s143, s144, s145, s146, s147, s148, s149, s150, s151, s152, s153, s154, s155, s156, s157, s158, s159, s160, s161, s162, s163, s164, s165, s166, s167, s168, s169, s170, s171, s172, s173, s174, s175, s176, s177, s178, s179, s180, s181, s182, s183, s184, s185, s186, s187, s188, s189, s190, s191, s192, s193, s194, s195, s196, s197, s198, s199, s200, s201, s202, s203, s204, s205, s206, s207, s208, s209, s210, s211, s212, s213, s214, s215, s216, s217, s218, s219], defers := [] } wr := by
    intro c' h1 h2
    rw [hcode] at h1
    cases h1
    exact h2
  refine key rfl ?_
  obtain ⟨hD1, hD2, hD3, hD4⟩ := hD
  clear key hcode
  go_upto_region 39 with (fail)
  dsimp only
  go_cut [185] (fun v wx => wr = wx ∧ ∃ B : Bool, v = .bool B ∧ Hid (B = (decide (s < m) && decide (m < e))))
  case first =>
    by_cases z1 : s < m
    · by_cases z2 : m < e
      · go_wp2_with fail
        all_goals
          go_meet
          exact ⟨rfl, true, rfl, Lib.hid (by rw [decide_eq_true z1, decide_eq_true z2]; rfl)⟩
      · have z2f : decide (m < e) = false := decide_eq_false z2
        go_wp2_with fail
        all_goals
          go_meet
          exact ⟨rfl, false, rfl, Lib.hid (by rw [z2f]; simp)⟩
    · have z1f : decide (s < m) = false := decide_eq_false z1
      go_wp2_with fail
      all_goals
        go_meet
        exact ⟨rfl, false, rfl, Lib.hid (by rw [z1f]; rfl)⟩
  case rest =>
    obtain ⟨rfl, B, rfl, HBo⟩ := hcut
    go_upto_if 185 with (fail)
    go_cut [] (fun wx => Two g g w wx ∧ Hid (∃ c, PlanR wx g c ∧ c.length = L ∧ Mid K l c a s d e b))
    case first =>
      cases B with
      | true =>
        have hB : s < m ∧ m < e := by have := HBo.out; simpa using this
        obtain ⟨z1, z2⟩ := hB
        have HRx := Lib.hid (HRo.out wr s e HP.out z1 z2 (by omega))
        clear HRo HMg
        go_wp2_with fail
        refine HRx.out.mono ?_
        rintro E w1 ⟨c, ⟨rfl, hP1, hT1⟩, hl1, hg1⟩
        have HG : Hid (∃ c, PlanR w1 g c ∧ c.length = L ∧ Mid K l c a s d e b) := Lib.hid ⟨c, hP1, hl1, HMid.out c (by rw [hl1, HL.out]) hg1⟩
        have hb := hb.trans hT1
        clear hP1 hT1 hl1 hg1 HMid HRx
        go_wp2_with fail
        go_meet
        exact ⟨hb, HG⟩
      | false =>
        have HG : Hid (∃ c, PlanR wr g c ∧ c.length = L ∧ Mid K l c a s d e b) := Lib.hid ⟨l, HP.out, HL.out, HMid.out l rfl fun x => by
          have h := HBo.out
          by_cases z1 : s < m
          · have z2 : ¬ m < e := fun z2 => by rw [decide_eq_true z1, decide_eq_true z2] at h; cases h
            rw [show e = m by omega]; exact (rotF_none2 _ _ _ _ g2).symm
          · rw [show s = m by omega]; exact (rotF_none1 _ _ _ _ g4).symm⟩
        clear HRo HMg HMid
        go_wp2_with fail
        go_meet
        exact ⟨hb, HG⟩
    case rest =>
      obtain ⟨hb, HG⟩ := hcut
      clear HMid HRo HP HBo
      obtain ⟨wp, rfl⟩ : ∃ wp : World, wp = wc := ⟨_, rfl⟩
      go_upto_region 41 with (fail)
      go_cut [199] (fun v wx => wp = wx ∧ ∃ B : Bool, v = .bool B ∧ Hid (B = (decide (a < s) && decide (s < d))))
      case first =>
        by_cases z1 : a < s
        · by_cases z2 : s < d
          · go_wp2_with fail
            all_goals
              go_meet
              exact ⟨rfl, true, rfl, Lib.hid (by rw [decide_eq_true z1, decide_eq_true z2]; rfl)⟩
          · have z2f : decide (s < d) = false := decide_eq_false z2
            go_wp2_with fail
            all_goals
              go_meet
              exact ⟨rfl, false, rfl, Lib.hid (by rw [z2f]; simp)⟩
        · have z1f : decide (a < s) = false := decide_eq_false z1
          go_wp2_with fail
          all_goals
            go_meet
            exact ⟨rfl, false, rfl, Lib.hid (by rw [z1f]; rfl)⟩
      case rest =>
        obtain ⟨rfl, B, rfl, HBo⟩ := hcut
        go_upto_if 199 with (fail)
        go_cut [] (fun wx => Two g g w wx ∧ Hid (∃ c c1, PlanR wx g c1 ∧ c.length = L ∧ Mid K l c a s d e b ∧ Seg a d c c1 ∧ SrtS K c1 a d))
        case first =>
          cases B with
          | true =>
            have hB : a < s ∧ s < d := by have := HBo.out; simpa using this
            obtain ⟨z1, z2⟩ := hB
            have HRx : Hid (∃ c, c.length = L ∧ Mid K l c a s d e b ∧ Calls Try.prog 73 #[.slice (some ⟨g, 0, none⟩) L cap, .int .i64 a, .int .i64 s, .int .i64 d, .func (.func 39) #[] lb] wp fun e w' => SoE K g wp L a d c e w') := Lib.hid (by
              obtain ⟨c, q1, q2, q3⟩ := HG.out
              exact ⟨c, q2, q3, HMg.out a s d c wp (by omega) z1 z2 (by omega) q1 q2 hb (fun i hi => by
                by_cases hh : a ≤ i ∧ i < b
                · obtain ⟨y, y1, y2, y3⟩ := q3.sg.to i hh.1 hh.2
                  rw [y3]; exact HO.out y (by omega)
                · rw [q3.sg.out i hh]; exact HO.out i hi) q3.s1 q3.s2 q3.x1⟩)
            obtain ⟨c, q2, q3, q4⟩ := HRx.out
            have Q2 := Lib.hid q2
            have Q3 := Lib.hid q3
            have Q4 := Lib.hid q4
            clear HRx HMg HG q2 q3 q4
            go_wp2_with fail
            refine Q4.out.mono ?_
            rintro E w1 ⟨c1, ⟨rfl, hP1, hT1⟩, hl1, hg1, hs1⟩
            have HG : Hid (∃ c c1, PlanR w1 g c1 ∧ c.length = L ∧ Mid K l c a s d e b ∧ Seg a d c c1 ∧ SrtS K c1 a d) := Lib.hid ⟨c, c1, hP1, Q2.out, Q3.out, hg1, hs1⟩
            have hb := hb.trans hT1
            clear hP1 hT1 hl1 hg1 hs1 Q2 Q3 Q4
            go_wp2_with fail
            go_meet
            exact ⟨hb, HG⟩
          | false =>
            have HG : Hid (∃ c c1, PlanR wp g c1 ∧ c.length = L ∧ Mid K l c a s d e b ∧ Seg a d c c1 ∧ SrtS K c1 a d) := Lib.hid (by
              obtain ⟨c, q1, q2, q3⟩ := HG.out
              have h := HBo.out
              by_cases z1 : a < s
              · have z2 : ¬ s < d := fun z2 => by rw [decide_eq_true z1, decide_eq_true z2] at h; cases h
                have : d = s := by omega
                exact ⟨c, c, q1, q2, q3, Seg.refl _ _ _, by rw [this]; exact q3.s1⟩
              · have : a = s := by omega
                exact ⟨c, c, q1, q2, q3, Seg.refl _ _ _, by rw [this]; exact q3.s2⟩)
            clear HMg
            go_wp2_with fail
            go_meet
            exact ⟨hb, HG⟩
        case rest =>
          obtain ⟨hb, HG⟩ := hcut
          clear HBo
          obtain ⟨wq, rfl⟩ : ∃ wq : World, wq = wc := ⟨_, rfl⟩
          by_cases z1 : d < e
          · by_cases z2 : e < b
            · have HRx : Hid (∃ c c1, c1.length = L ∧ Mid K l c a s d e b ∧ Seg a d c c1 ∧ SrtS K c1 a d ∧ Calls Try.prog 73 #[.slice (some ⟨g, 0, none⟩) L cap, .int .i64 d, .int .i64 e, .int .i64 b, .func (.func 39) #[] lb] wq fun E w' => SoE K g wq L d b c1 E w') := Lib.hid (by
                obtain ⟨c, c1, q1, q2, q3, q4, q5⟩ := HG.out
                have q6 : c1.length = L := q4.len.trans q2
                exact ⟨c, c1, q6, q3, q4, q5, HMg.out d e b c1 wq (by omega) z1 z2 (by omega) q1 q6 hb (fun i hi => by
                  have hin : ∃ y, y < L ∧ gi c1 i = gi c y := by
                    by_cases hh : a ≤ i ∧ i < d
                    · obtain ⟨y, y1, y2, y3⟩ := q4.to i hh.1 hh.2
                      exact ⟨y, by omega, y3⟩
                    · exact ⟨i, hi, q4.out i hh⟩
                  obtain ⟨j, hj, hj2⟩ := hin
                  rw [hj2]
                  by_cases hh : a ≤ j ∧ j < b
                  · obtain ⟨y, y1, y2, y3⟩ := q3.sg.to j hh.1 hh.2
                    rw [y3]; exact HO.out y (by omega)
                  · rw [q3.sg.out j hh]; exact HO.out j hj) (q3.s3.seg q4 (.inr (by omega))) (q3.s4.seg q4 (.inr (by omega))) (fun i j i1 i2 i3 i4 => by
                  rw [q4.out i (by omega), q4.out j (by omega)]; exact q3.x2 i j i1 i2 i3 i4)⟩)
              obtain ⟨c, c1, q2, q3, q4, q5, q6⟩ := HRx.out
              have Q2 := Lib.hid (And.intro q2 (And.intro q3 (And.intro q4 q5)))
              have Q6 := Lib.hid q6
              clear HRx HMg HG q2 q3 q4 q5 q6
              go_wp2_with fail
              refine Q6.out.mono ?_
              rintro E w1 ⟨c2, ⟨rfl, hP1, hT1⟩, hl1, hg1, hs1⟩
              have HF : Hid (SoE K g w L a b l (.returned (.tuple #[])) w1) := Lib.hid (by
                obtain ⟨r1, r2, r3, r4⟩ := Q2.out
                obtain ⟨t1, t2⟩ := mid_done r2 (by omega) (by omega) r3 r4 hg1 hs1
                exact ⟨c2, ⟨rfl, hP1, hb.trans hT1⟩, hl1, t1, t2⟩)
              clear hP1 hT1 hl1 hg1 hs1 Q2 Q6
              go_wp2_with fail
              go_end0
              exact HF.out
            · have HF : Hid (SoE K g w L a b l (.returned (.tuple #[])) wq) := Lib.hid (by
                obtain ⟨c, c1, q1, q2, q3, q4, q5⟩ := HG.out
                have : b = e := by omega
                obtain ⟨t1, t2⟩ := mid_done q3 (by omega) (by omega) q4 q5 (Seg.refl _ _ _) (by rw [this]; exact q3.s3.seg q4 (.inr (by omega)))
                exact ⟨c1, ⟨rfl, q1, hb⟩, q4.len.trans q2, t1, t2⟩)
              have z2f : decide (e < b) = false := decide_eq_false z2
              clear HMg HG
              go_wp2_with fail
              go_end0
              exact HF.out
          · have HF : Hid (SoE K g w L a b l (.returned (.tuple #[])) wq) := Lib.hid (by
              obtain ⟨c, c1, q1, q2, q3, q4, q5⟩ := HG.out
              have : d = e := by omega
              obtain ⟨t1, t2⟩ := mid_done q3 (by omega) (by omega) q4 q5 (Seg.refl _ _ _) (by rw [this]; exact q3.s4.seg q4 (.inr (by omega)))
              exact ⟨c1, ⟨rfl, q1, hb⟩, q4.len.trans q2, t1, t2⟩)
            have z1f : decide (d < e) = false := decide_eq_false z1
            clear HMg HG
            go_wp2_with fail
            go_end0
            exact HF.out
end Go.Proofs.Ytghlhjiomebmhaa
