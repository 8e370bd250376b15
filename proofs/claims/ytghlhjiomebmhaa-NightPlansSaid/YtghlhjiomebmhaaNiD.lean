/-
  Jobs and nights in memory; jobsValid and listsError of package night. By an AI agent.
-/
import Derived.Test.YtghlhjiomebmhaaNiC
import Derived.Test.YtghlhjiomebmhaaNiMap
import Derived.Deep.RegionHeld3
import Derived.BigQuiet
import Derived.Carry
import Derived.Maps.OwnOps
namespace Go.Proofs.Ytghlhjiomebmhaa
set_option linter.unusedVariables false
set_option linter.unusedSimpArgs false
open Go.RowKit

def JobsS (w : World) (a : Option Addr) (l : List Jo) : Prop :=
  l.length ≤ 9223372036854775807 ∧ ∃ blk off, (l ≠ [] → a = some ⟨blk, off, none⟩) ∧ ∀ i, i < l.length → w.cell? ⟨blk, off + i * 8, none⟩ = some (.int .i64 (gj l i).n) ∧ w.cell? ⟨blk, off + i * 8 + 1, none⟩ = some (.int .i64 (gj l i).r) ∧ w.cell? ⟨blk, off + i * 8 + 2, none⟩ = some (.int .i64 (gj l i).c) ∧ w.cell? ⟨blk, off + i * 8 + 3, none⟩ = some (.int .i64 (gj l i).f) ∧ w.cell? ⟨blk, off + i * 8 + 4, none⟩ = some (.int .i64 (gj l i).l) ∧ w.cell? ⟨blk, off + i * 8 + 5, none⟩ = some (.int .i64 (gj l i).w) ∧ w.cell? ⟨blk, off + i * 8 + 6, none⟩ = some (.bool (gj l i).dy) ∧ w.cell? ⟨blk, off + i * 8 + 7, none⟩ = some (.bool (gj l i).wm)
theorem JobsS.below {w w' : World} {a : Option Addr} {l : List Jo} (h : JobsS w a l) (hb : Below w.heap.size w w') : JobsS w' a l := by
  obtain ⟨h0, blk, off, h2, h3⟩ := h
  exact ⟨h0, blk, off, h2, fun i hi => by
    have hx := h3 i hi
    exact ⟨cell_below hx.1 hb, cell_below hx.2.1 hb, cell_below hx.2.2.1 hb, cell_below hx.2.2.2.1 hb, cell_below hx.2.2.2.2.1 hb, cell_below hx.2.2.2.2.2.1 hb, cell_below hx.2.2.2.2.2.2.1 hb, cell_below hx.2.2.2.2.2.2.2 hb⟩⟩
def NightsS (w : World) (a : Option Addr) (l : List Ni) : Prop :=
  l.length ≤ 9223372036854775807 ∧ ∃ blk off, (l ≠ [] → a = some ⟨blk, off, none⟩) ∧ ∀ i, i < l.length → w.cell? ⟨blk, off + i * 8, none⟩ = some (.int .i64 (gn l i).d) ∧ w.cell? ⟨blk, off + i * 8 + 1, none⟩ = some (.int .i64 (gn l i).r) ∧ w.cell? ⟨blk, off + i * 8 + 2, none⟩ = some (.int .i64 (gn l i).f) ∧ w.cell? ⟨blk, off + i * 8 + 3, none⟩ = some (.int .i64 (gn l i).t) ∧ w.cell? ⟨blk, off + i * 8 + 4, none⟩ = some (.int .i64 (gn l i).w) ∧ w.cell? ⟨blk, off + i * 8 + 5, none⟩ = some (.int .i64 (gn l i).p) ∧ w.cell? ⟨blk, off + i * 8 + 6, none⟩ = some (.bool (gn l i).rn) ∧ w.cell? ⟨blk, off + i * 8 + 7, none⟩ = some (.bool (gn l i).fr)
theorem NightsS.below {w w' : World} {a : Option Addr} {l : List Ni} (h : NightsS w a l) (hb : Below w.heap.size w w') : NightsS w' a l := by
  obtain ⟨h0, blk, off, h2, h3⟩ := h
  exact ⟨h0, blk, off, h2, fun i hi => by
    have hx := h3 i hi
    exact ⟨cell_below hx.1 hb, cell_below hx.2.1 hb, cell_below hx.2.2.1 hb, cell_below hx.2.2.2.1 hb, cell_below hx.2.2.2.2.1 hb, cell_below hx.2.2.2.2.2.1 hb, cell_below hx.2.2.2.2.2.2.1 hb, cell_below hx.2.2.2.2.2.2.2 hb⟩⟩
theorem underMB : Try.prog.underlying 84 = some (.map 3 4) := by kernel_rfl
theorem underMI : Try.prog.underlying 75 = some (.map 3 3) := by kernel_rfl
theorem underI : Try.prog.underlying 3 = some (.int .i64) := by kernel_rfl
theorem underB : Try.prog.underlying 4 = some .bool := by kernel_rfl
theorem zeroB (w : World) : (zeroValue 4).run Try.prog w = .ok (.bool false) w := by kernel_rfl
theorem zeroI (w : World) : (zeroValue 3).run Try.prog w = .ok (.int .i64 0) w := by kernel_rfl
theorem wf64 {x : Int} (h1 : -9223372036854775808 ≤ x) (h2 : x ≤ 9223372036854775807) : (Lit.int .i64 x).wf = true := by
  exact WalkArith.wf_i64 ⟨h1, h2⟩
/-- Are the first k jobs right, with different numbers? -/
def jokK (l : List Jo) : Nat → Bool
  | 0 => true
  | k + 1 => jokK l k && (jobB (gj l k) && !(anyK (fun m => (gj l m).n == (gj l k).n) k))
theorem jokK_false {l : List Jo} {k : Nat} (h : jokK l (k + 1) = false) : ∀ n, k < n → jokK l n = false
  | 0, hn => by omega
  | n + 1, hn => by
    by_cases e : n = k
    · subst e; exact h
    · have := jokK_false h n (by omega)
      simp [jokK, this]
/-- Are jobs right? -/
def jobsB (l : List Jo) : Bool := decide (l.length ≤ 60) && jokK l l.length
/-- Are nights right? -/
def nightsB (l : List Ni) : Bool := decide (l.length ≤ 60) && !(anyK (fun k => !(nightB (gn l k))) l.length)
/-- The first error of jobs and nights. -/
def errL (js : List Jo) (ns : List Ni) : Int := if jobsB js = true then (if nightsB ns = true then 0 else 81) else 80
/-- Whether a number is among those of the first k jobs. -/
def numsK (l : List Jo) (k : Nat) : Int → Bool := fun x => anyK (fun m => (gj l m).n == x) k
theorem nums_step (l : List Jo) (k : Nat) : setAt (numsK l k) (gj l k).n true = numsK l (k + 1) := by
  funext x
  unfold setAt numsK
  rw [show anyK (fun m => (gj l m).n == x) (k + 1) = (anyK (fun m => (gj l m).n == x) k || (gj l k).n == x) from by first | rfl | simp [anyK, Bool.or_comm]]
  by_cases e : x = (gj l k).n
  · rw [if_pos e, e]; simp
  · rw [if_neg e, show ((gj l k).n == x) = false from beq_false_of_ne (fun h => e h.symm)]; simp
theorem jobB_n {s : Jo} (h : jobB s = true) : 1 ≤ s.n ∧ s.n ≤ 1000000000 := by
  unfold jobB at h
  rw [Bool.and_eq_true] at h
  exact (btw_iff _ _ _).1 h.1
set_option maxRecDepth 100000 in
set_option maxHeartbeats 2000000 in
theorem jobsValid_r (a : Option Addr) (l : List Jo) (ca : Nat) (w : World) (hA : JobsS w a l) :
    Calls Try.prog 49 #[.slice a l.length ca] w fun e w' => e = .returned (.bool (jobsB l)) ∧ Below w.heap.size w w' := by
  obtain ⟨hlen, blk, off, hadr, hc⟩ := hA
  have HC := Lib.hid hc
  have HL : Hid (0 < l.length → a = some ⟨blk, off, none⟩) := Lib.hid fun h => hadr (pos_ne (n := 0) h)
  have HX : Hid (jobsB l = (decide (l.length ≤ 60) && jokK l l.length)) := Lib.hid rfl
  clear hc hadr
  by_cases h60 : l.length ≤ 60
  · have d60 : decide ((60 : Int) < l.length) = false := decide_eq_false (by omega)
    have HX : Hid (jobsB l = jokK l l.length) := Lib.hid (by rw [HX.out, decide_eq_true h60]; rfl)
    have hmm := @run_makeMap Try.prog
    go_enter Try.func49, Try.ntmps49
    go_wp2_with fail
    go_loopw [12] (fun i wr => ∃ k : Nat, k ≤ l.length ∧ i = .int .i64 k ∧ Below w.heap.size w wr ∧ MapB Try.prog 3 4 wr w.heap.size k (numsK l k) ∧ Hid (jokK l k = true)) (fun i _ => l.length - (intOf i).toNat)
    case atStart => exact ⟨0, Nat.zero_le _, rfl, (Below.refl _ _).alloc (Nat.le_refl _) _, (MapB.made _ _ _ _), Lib.hid rfl⟩
    case round =>
      obtain ⟨k, hk, rfl, hb, hM, hJ⟩ := hrel
      by_cases hlt : k < l.length
      · obtain rfl := HL.out (by omega)
        obtain ⟨c0, c1, c2, c3, c4, c5, c6, c7⟩ := HC.out k hlt
        have c0 := cell_below c0 hb
        have c1 := cell_below c1 hb
        have c2 := cell_below c2 hb
        have c3 := cell_below c3 hb
        have c4 := cell_below c4 hb
        have c5 := cell_below c5 hb
        have c6 := cell_below c6 hb
        have c7 := cell_below c7 hb
        have hst := Lib.hid (nums_step l k)
        have hwK : w.heap.size < wr.heap.size := hM.lt
        have hJ1 : Hid (jokK l (k + 1) = (jobB (gj l k) && !(numsK l k (gj l k).n))) := Lib.hid (by
          show (jokK l k && (jobB (gj l k) && !(anyK (fun m => (gj l m).n == (gj l k).n) k))) = _
          rw [hJ.out]; rfl)
        have hJ2 := Lib.hid (fun h => jokK_false (l := l) (k := k) h l.length hlt)
        generalize hf : numsK l k = f at *
        clear hf HC HL
        generalize gj l k = s at *
        have HV := Lib.hid (fun W => jobValid_r s W)
        have hn := Lib.hid (fun h => jobB_n (s := s) h)

        cases hjb : jobB s with
        | false =>
          rw [hjb] at HV hJ1
          have hR := Lib.hid (HX.out.trans (hJ2.out (by rw [hJ1.out]; rfl)))
          clear HX hJ1 hJ2 hst hn hjb
          go_wp2_with fail
          obtain ⟨wB, hwB⟩ : ∃ wB, wr.alloc (.cells #[.int .i64 s.n, .int .i64 s.r, .int .i64 s.c, .int .i64 s.f, .int .i64 s.l, .int .i64 s.w, .bool s.dy, .bool s.wm] 43) = wB := ⟨_, rfl⟩
          have hbB : Below w.heap.size w wB := by rw [← hwB]; exact hb.alloc hb.size _
          have hzB : wr.heap.size < wB.heap.size := by rw [← hwB]; simp
          have p0 : wB.cell? ⟨wr.heap.size, 0, none⟩ = some (.int .i64 s.n) := by rw [← hwB]; simp [go_sem]
          have hMB : MapB Try.prog 3 4 wB w.heap.size k f := by rw [← hwB]; exact hM.alloc _
          rw [hwB]
          clear hwB hM hb
          refine (HV.out _).mono ?_
          rintro e w1 ⟨rfl, hb1⟩
          have hb2 := below_onN hbB hb1 hbB.size
          have p0 := cell_below p0 hb1
          have hM := hMB.below hMB.lt hb1
          have hz1 := hb1.size
          clear hMB hbB hb1

          go_wp2_with fail
          go_ret
          exact ⟨by rw [hR.out]; rfl, hb2⟩
        | true =>
          rw [hjb] at HV hJ1
          obtain ⟨n1, n2⟩ := hn.out hjb
          clear hjb hn
          go_wp2_with fail
          obtain ⟨wB, hwB⟩ : ∃ wB, wr.alloc (.cells #[.int .i64 s.n, .int .i64 s.r, .int .i64 s.c, .int .i64 s.f, .int .i64 s.l, .int .i64 s.w, .bool s.dy, .bool s.wm] 43) = wB := ⟨_, rfl⟩
          have hbB : Below w.heap.size w wB := by rw [← hwB]; exact hb.alloc hb.size _
          have hzB : wr.heap.size < wB.heap.size := by rw [← hwB]; simp
          have p0 : wB.cell? ⟨wr.heap.size, 0, none⟩ = some (.int .i64 s.n) := by rw [← hwB]; simp [go_sem]
          have hMB : MapB Try.prog 3 4 wB w.heap.size k f := by rw [← hwB]; exact hM.alloc _
          rw [hwB]
          clear hwB hM hb
          refine (HV.out _).mono ?_
          rintro e w1 ⟨rfl, hb1⟩
          have hb2 := below_onN hbB hb1 hbB.size
          have p0 := cell_below p0 hb1
          have hM := hMB.below hMB.lt hb1
          have hz1 := hb1.size
          clear hMB hbB hb1

          cases hfn : f s.n with
          | true =>
            rw [hfn] at hJ1
            have hR := Lib.hid (HX.out.trans (hJ2.out (by rw [hJ1.out]; rfl)))
            clear HX hJ1 hJ2 hst
            have hlk := hM.look (t := 84) underI underMB underB (zeroB _) s.n (wf64 (by omega) (by omega))
            rw [hfn] at hlk
            go_wp2_with fail
            go_ret
            exact ⟨by rw [hR.out]; rfl, hb2⟩
          | false =>
            rw [hfn] at hJ1
            have hR := Lib.hid (hJ1.out.trans rfl)
            clear hJ1 hJ2
            have hlk := hM.look (t := 84) underI underMB underB (zeroB _) s.n (wf64 (by omega) (by omega))
            rw [hfn] at hlk
            clear hfn
            go_wp2_with (first | (at_mapUpdate; refine wpList_putB _ rfl _ _ _ 84 rfl 3 4 _ _ _ rfl hM underI underMB underB _ _ rfl rfl (wf64 (by omega) (by omega)) (by unfold maxLen; omega) ?_; intro w3 hM3 hg3))
            go_roundw
            case rel => exact ⟨k + 1, by omega, by go_num, hb2.grown hg3 hb2.size (fun j hj => by cases hj; exact Nat.le_refl _), hst.out ▸ hM3, hR⟩
            case measure => simp [intOf]; omega
      · obtain rfl : k = l.length := by omega
        have hR := Lib.hid (HX.out.trans hJ.out)
        clear hM
        go_wp2_with fail
        go_ret
        exact ⟨by rw [hR.out]; rfl, hb⟩
  · have d60 : decide ((60 : Int) < l.length) = true := decide_eq_true (by omega)
    have hR : Hid (jobsB l = false) := Lib.hid (by rw [HX.out, decide_eq_false h60]; rfl)
    go_enter Try.func49, Try.ntmps49
    go_wp2_with fail
    go_ret
    exact ⟨by rw [hR.out]; rfl, Below.refl _ _⟩
end Go.Proofs.Ytghlhjiomebmhaa
