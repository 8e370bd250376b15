/-
  The walks of the functions of package shop for a shop that is not valid, and of Next, Worked and After for one that is. By an AI agent.
-/
import Derived.Test.YtmdifgkalooaoaaShopJ
import Derived.Test.YtmdifgkalooaoaaShopD
import Derived.Deep.RegionHeld3
namespace Go.Proofs.Ytmdifgkalooaoaa
set_option linter.unusedVariables false
set_option linter.unusedSimpArgs false
open Go.RowKit

set_option maxRecDepth 100000 in
set_option maxHeartbeats 1000000 in
theorem next_bad (s : Sh) (t m : Int) (w : World) (hI : ShS w s) (hV : ¬ ShOk s) :
    Calls Try.prog 22 #[.agg #[.int .i64 s.O, .int .i64 s.C, .slice s.aH s.H.length s.cH, .int .i64 s.M, .slice s.aS s.S.length s.cS, .slice s.aJ s.J.length s.cJ], .int .i64 t, .int .i64 m] w fun e w' => e = .returned (.tuple #[.int .i64 0, .int .i64 50]) ∧ Below w.heap.size w w' := by
  have HV := Lib.hid (fun W (hW : Below w.heap.size w W) => Valid_sh s W (hI.below hW))
  have hB := ShBox.start w s 25
  have hf := shB_f hV
  rw [hf] at HV
  clear hf hI hV
  go_enter Try.func22, Try.ntmps22
  go_wp2_with fail
  obtain ⟨wB, hwB⟩ : ∃ wB, w.alloc (.cells #[.int .i64 s.O, .int .i64 s.C, .slice s.aH s.H.length s.cH, .int .i64 s.M, .slice s.aS s.S.length s.cS, .slice s.aJ s.J.length s.cJ] 25) = wB := ⟨_, rfl⟩
  rw [hwB] at hB ⊢
  clear hwB
  refine (HV.out _ hB.1).mono ?_
  rintro e w1 ⟨rfl, hb1⟩
  go_wp2_with fail
  go_returns
  exact ⟨rfl, hB.1.trans (hb1.mono hB.1.size)⟩

set_option maxRecDepth 100000 in
set_option maxHeartbeats 1000000 in
theorem worked_bad (s : Sh) (t m : Int) (w : World) (hI : ShS w s) (hV : ¬ ShOk s) :
    Calls Try.prog 23 #[.agg #[.int .i64 s.O, .int .i64 s.C, .slice s.aH s.H.length s.cH, .int .i64 s.M, .slice s.aS s.S.length s.cS, .slice s.aJ s.J.length s.cJ], .int .i64 t, .int .i64 m] w fun e w' => e = .returned (.tuple #[.int .i64 0, .int .i64 50]) ∧ Below w.heap.size w w' := by
  have HV := Lib.hid (fun W (hW : Below w.heap.size w W) => Valid_sh s W (hI.below hW))
  have hB := ShBox.start w s 25
  have hf := shB_f hV
  rw [hf] at HV
  clear hf hI hV
  go_enter Try.func23, Try.ntmps23
  go_wp2_with fail
  obtain ⟨wB, hwB⟩ : ∃ wB, w.alloc (.cells #[.int .i64 s.O, .int .i64 s.C, .slice s.aH s.H.length s.cH, .int .i64 s.M, .slice s.aS s.S.length s.cS, .slice s.aJ s.J.length s.cJ] 25) = wB := ⟨_, rfl⟩
  rw [hwB] at hB ⊢
  clear hwB
  refine (HV.out _ hB.1).mono ?_
  rintro e w1 ⟨rfl, hb1⟩
  go_wp2_with fail
  go_returns
  exact ⟨rfl, hB.1.trans (hb1.mono hB.1.size)⟩

set_option maxRecDepth 100000 in
set_option maxHeartbeats 1000000 in
theorem after_bad (s : Sh) (t m : Int) (w : World) (hI : ShS w s) (hV : ¬ ShOk s) :
    Calls Try.prog 24 #[.agg #[.int .i64 s.O, .int .i64 s.C, .slice s.aH s.H.length s.cH, .int .i64 s.M, .slice s.aS s.S.length s.cS, .slice s.aJ s.J.length s.cJ], .int .i64 t, .int .i64 m] w fun e w' => e = .returned (.tuple #[.int .i64 0, .int .i64 50]) ∧ Below w.heap.size w w' := by
  have HV := Lib.hid (fun W (hW : Below w.heap.size w W) => Valid_sh s W (hI.below hW))
  have hB := ShBox.start w s 25
  have hf := shB_f hV
  rw [hf] at HV
  clear hf hI hV
  go_enter Try.func24, Try.ntmps24
  go_wp2_with fail
  obtain ⟨wB, hwB⟩ : ∃ wB, w.alloc (.cells #[.int .i64 s.O, .int .i64 s.C, .slice s.aH s.H.length s.cH, .int .i64 s.M, .slice s.aS s.S.length s.cS, .slice s.aJ s.J.length s.cJ] 25) = wB := ⟨_, rfl⟩
  rw [hwB] at hB ⊢
  clear hwB
  refine (HV.out _ hB.1).mono ?_
  rintro e w1 ⟨rfl, hb1⟩
  go_wp2_with fail
  go_returns
  exact ⟨rfl, hB.1.trans (hb1.mono hB.1.size)⟩

set_option maxRecDepth 100000 in
set_option maxHeartbeats 1000000 in
theorem judge_bad (s : Sh) (p : Value) (w : World) (hI : ShS w s) (hV : ¬ ShOk s) :
    Calls Try.prog 25 #[.agg #[.int .i64 s.O, .int .i64 s.C, .slice s.aH s.H.length s.cH, .int .i64 s.M, .slice s.aS s.S.length s.cS, .slice s.aJ s.J.length s.cJ], p] w fun e w' => e = .returned (.tuple #[.int .i64 0, .int .i64 0, .int .i64 50]) ∧ Below w.heap.size w w' := by
  have HV := Lib.hid (fun W (hW : Below w.heap.size w W) => Valid_sh s W (hI.below hW))
  have hB := ShBox.start w s 25
  have hf := shB_f hV
  rw [hf] at HV
  clear hf hI hV
  go_enter Try.func25, Try.ntmps25
  go_wp2_with fail
  obtain ⟨wB, hwB⟩ : ∃ wB, w.alloc (.cells #[.int .i64 s.O, .int .i64 s.C, .slice s.aH s.H.length s.cH, .int .i64 s.M, .slice s.aS s.S.length s.cS, .slice s.aJ s.J.length s.cJ] 25) = wB := ⟨_, rfl⟩
  rw [hwB] at hB ⊢
  clear hwB
  refine (HV.out _ hB.1).mono ?_
  rintro e w1 ⟨rfl, hb1⟩
  go_wp2_with fail
  go_returns
  exact ⟨rfl, hB.1.trans (hb1.mono hB.1.size)⟩

set_option maxRecDepth 100000 in
set_option maxHeartbeats 1000000 in
theorem dispatch_bad (s : Sh)  (w : World) (hI : ShS w s) (hV : ¬ ShOk s) :
    Calls Try.prog 27 #[.agg #[.int .i64 s.O, .int .i64 s.C, .slice s.aH s.H.length s.cH, .int .i64 s.M, .slice s.aS s.S.length s.cS, .slice s.aJ s.J.length s.cJ]] w fun e w' => e = .returned (.tuple #[.slice none 0 0, .int .i64 50]) ∧ Below w.heap.size w w' := by
  have HV := Lib.hid (fun W (hW : Below w.heap.size w W) => Valid_sh s W (hI.below hW))
  have hB := ShBox.start w s 25
  have hf := shB_f hV
  rw [hf] at HV
  clear hf hI hV
  go_enter Try.func27, Try.ntmps27
  go_wp2_with fail
  obtain ⟨wB, hwB⟩ : ∃ wB, w.alloc (.cells #[.int .i64 s.O, .int .i64 s.C, .slice s.aH s.H.length s.cH, .int .i64 s.M, .slice s.aS s.S.length s.cS, .slice s.aJ s.J.length s.cJ] 25) = wB := ⟨_, rfl⟩
  rw [hwB] at hB ⊢
  clear hwB
  refine (HV.out _ hB.1).mono ?_
  rintro e w1 ⟨rfl, hb1⟩
  go_wp2_with fail
  go_returns
  exact ⟨rfl, hB.1.trans (hb1.mono hB.1.size)⟩

set_option maxRecDepth 100000 in
set_option maxHeartbeats 1000000 in
theorem chain_bad (s : Sh) (n : Int) (w : World) (hI : ShS w s) (hV : ¬ ShOk s) :
    Calls Try.prog 28 #[.agg #[.int .i64 s.O, .int .i64 s.C, .slice s.aH s.H.length s.cH, .int .i64 s.M, .slice s.aS s.S.length s.cS, .slice s.aJ s.J.length s.cJ], .int .i64 n] w fun e w' => e = .returned (.tuple #[.int .i64 0, .int .i64 50]) ∧ Below w.heap.size w w' := by
  have HV := Lib.hid (fun W (hW : Below w.heap.size w W) => Valid_sh s W (hI.below hW))
  have hB := ShBox.start w s 25
  have hf := shB_f hV
  rw [hf] at HV
  clear hf hI hV
  go_enter Try.func28, Try.ntmps28
  go_wp2_with fail
  obtain ⟨wB, hwB⟩ : ∃ wB, w.alloc (.cells #[.int .i64 s.O, .int .i64 s.C, .slice s.aH s.H.length s.cH, .int .i64 s.M, .slice s.aS s.S.length s.cS, .slice s.aJ s.J.length s.cJ] 25) = wB := ⟨_, rfl⟩
  rw [hwB] at hB ⊢
  clear hwB
  refine (HV.out _ hB.1).mono ?_
  rintro e w1 ⟨rfl, hb1⟩
  go_wp2_with fail
  go_returns
  exact ⟨rfl, hB.1.trans (hb1.mono hB.1.size)⟩

set_option maxRecDepth 100000 in
set_option maxHeartbeats 1000000 in
theorem load_bad (s : Sh) (n : Int) (w : World) (hI : ShS w s) (hV : ¬ ShOk s) :
    Calls Try.prog 29 #[.agg #[.int .i64 s.O, .int .i64 s.C, .slice s.aH s.H.length s.cH, .int .i64 s.M, .slice s.aS s.S.length s.cS, .slice s.aJ s.J.length s.cJ], .int .i64 n] w fun e w' => e = .returned (.tuple #[.int .i64 0, .int .i64 50]) ∧ Below w.heap.size w w' := by
  have HV := Lib.hid (fun W (hW : Below w.heap.size w W) => Valid_sh s W (hI.below hW))
  have hB := ShBox.start w s 25
  have hf := shB_f hV
  rw [hf] at HV
  clear hf hI hV
  go_enter Try.func29, Try.ntmps29
  go_wp2_with fail
  obtain ⟨wB, hwB⟩ : ∃ wB, w.alloc (.cells #[.int .i64 s.O, .int .i64 s.C, .slice s.aH s.H.length s.cH, .int .i64 s.M, .slice s.aS s.S.length s.cS, .slice s.aJ s.J.length s.cJ] 25) = wB := ⟨_, rfl⟩
  rw [hwB] at hB ⊢
  clear hwB
  refine (HV.out _ hB.1).mono ?_
  rintro e w1 ⟨rfl, hb1⟩
  go_wp2_with fail
  go_returns
  exact ⟨rfl, hB.1.trans (hb1.mono hB.1.size)⟩

set_option maxRecDepth 100000 in
set_option maxHeartbeats 1000000 in
theorem bound_bad (s : Sh)  (w : World) (hI : ShS w s) (hV : ¬ ShOk s) :
    Calls Try.prog 30 #[.agg #[.int .i64 s.O, .int .i64 s.C, .slice s.aH s.H.length s.cH, .int .i64 s.M, .slice s.aS s.S.length s.cS, .slice s.aJ s.J.length s.cJ]] w fun e w' => e = .returned (.tuple #[.int .i64 0, .int .i64 50]) ∧ Below w.heap.size w w' := by
  have HV := Lib.hid (fun W (hW : Below w.heap.size w W) => Valid_sh s W (hI.below hW))
  have hB := ShBox.start w s 25
  have hf := shB_f hV
  rw [hf] at HV
  clear hf hI hV
  go_enter Try.func30, Try.ntmps30
  go_wp2_with fail
  obtain ⟨wB, hwB⟩ : ∃ wB, w.alloc (.cells #[.int .i64 s.O, .int .i64 s.C, .slice s.aH s.H.length s.cH, .int .i64 s.M, .slice s.aS s.S.length s.cS, .slice s.aJ s.J.length s.cJ] 25) = wB := ⟨_, rfl⟩
  rw [hwB] at hB ⊢
  clear hwB
  refine (HV.out _ hB.1).mono ?_
  rintro e w1 ⟨rfl, hb1⟩
  go_wp2_with fail
  go_returns
  exact ⟨rfl, hB.1.trans (hb1.mono hB.1.size)⟩

set_option maxRecDepth 100000 in
set_option maxHeartbeats 1000000 in
theorem order_bad (s : Sh) (p : Value) (n : Int) (w : World) (hI : ShS w s) (hV : ¬ ShOk s) :
    Calls Try.prog 31 #[.agg #[.int .i64 s.O, .int .i64 s.C, .slice s.aH s.H.length s.cH, .int .i64 s.M, .slice s.aS s.S.length s.cS, .slice s.aJ s.J.length s.cJ], p, .int .i64 n] w fun e w' => e = .returned (.tuple #[.slice none 0 0, .int .i64 50]) ∧ Below w.heap.size w w' := by
  have HV := Lib.hid (fun W (hW : Below w.heap.size w W) => Valid_sh s W (hI.below hW))
  have hB := ShBox.start w s 25
  have hf := shB_f hV
  rw [hf] at HV
  clear hf hI hV
  go_enter Try.func31, Try.ntmps31
  go_wp2_with fail
  obtain ⟨wB, hwB⟩ : ∃ wB, w.alloc (.cells #[.int .i64 s.O, .int .i64 s.C, .slice s.aH s.H.length s.cH, .int .i64 s.M, .slice s.aS s.S.length s.cS, .slice s.aJ s.J.length s.cJ] 25) = wB := ⟨_, rfl⟩
  rw [hwB] at hB ⊢
  clear hwB
  refine (HV.out _ hB.1).mono ?_
  rintro e w1 ⟨rfl, hb1⟩
  go_wp2_with fail
  go_returns
  exact ⟨rfl, hB.1.trans (hb1.mono hB.1.size)⟩

set_option maxRecDepth 100000 in
set_option maxHeartbeats 1000000 in
theorem end_bad (s : Sh) (p : Value) (w : World) (hI : ShS w s) (hV : ¬ ShOk s) :
    Calls Try.prog 26 #[.agg #[.int .i64 s.O, .int .i64 s.C, .slice s.aH s.H.length s.cH, .int .i64 s.M, .slice s.aS s.S.length s.cS, .slice s.aJ s.J.length s.cJ], p] w fun e w' => e = .returned (.tuple #[.int .i64 0, .int .i64 50]) ∧ Below w.heap.size w w' := by
  have HV := Lib.hid (fun W (hW : Below w.heap.size w W) => judge_bad s p W (hI.below hW) hV)
  have hB := ShBox.start w s 25
  clear hI hV
  go_enter Try.func26, Try.ntmps26
  go_wp2_with fail
  obtain ⟨wB, hwB⟩ : ∃ wB, w.alloc (.cells #[.int .i64 s.O, .int .i64 s.C, .slice s.aH s.H.length s.cH, .int .i64 s.M, .slice s.aS s.S.length s.cS, .slice s.aJ s.J.length s.cJ] 25) = wB := ⟨_, rfl⟩
  rw [hwB] at hB ⊢
  clear hwB
  refine (HV.out _ hB.1).mono ?_
  rintro e w1 ⟨rfl, hb1⟩
  go_wp2_with fail
  go_returns
  exact ⟨rfl, hB.1.trans (hb1.mono hB.1.size)⟩

set_option maxRecDepth 100000 in
set_option maxHeartbeats 1000000 in
theorem pull_bad (s : Sh) (p : Value) (w : World) (hI : ShS w s) (hV : ¬ ShOk s) :
    Calls Try.prog 32 #[.agg #[.int .i64 s.O, .int .i64 s.C, .slice s.aH s.H.length s.cH, .int .i64 s.M, .slice s.aS s.S.length s.cS, .slice s.aJ s.J.length s.cJ], p] w fun e w' => e = .returned (.tuple #[.slice none 0 0, .int .i64 50]) ∧ Below w.heap.size w w' := by
  have HV := Lib.hid (fun W (hW : Below w.heap.size w W) => judge_bad s p W (hI.below hW) hV)
  have hB := ShBox.start w s 25
  clear hI hV
  go_enter Try.func32, Try.ntmps32
  go_wp2_with fail
  obtain ⟨wB, hwB⟩ : ∃ wB, w.alloc (.cells #[.int .i64 s.O, .int .i64 s.C, .slice s.aH s.H.length s.cH, .int .i64 s.M, .slice s.aS s.S.length s.cS, .slice s.aJ s.J.length s.cJ] 25) = wB := ⟨_, rfl⟩
  rw [hwB] at hB ⊢
  clear hwB
  refine (HV.out _ hB.1).mono ?_
  rintro e w1 ⟨rfl, hb1⟩
  go_wp2_with fail
  go_returns
  exact ⟨rfl, hB.1.trans (hb1.mono hB.1.size)⟩

set_option maxRecDepth 100000 in
set_option maxHeartbeats 1000000 in
theorem alone_bad (s : Sh) (n : Int) (w : World) (hI : ShS w s) (hV : ¬ ShOk s) :
    Calls Try.prog 33 #[.agg #[.int .i64 s.O, .int .i64 s.C, .slice s.aH s.H.length s.cH, .int .i64 s.M, .slice s.aS s.S.length s.cS, .slice s.aJ s.J.length s.cJ], .int .i64 n] w fun e w' => e = .returned (.tuple #[.agg #[.int .i64 0, .int .i64 0, .slice none 0 0, .int .i64 0, .slice none 0 0, .slice none 0 0], .int .i64 50]) ∧ Below w.heap.size w w' := by
  have HV := Lib.hid (fun W (hW : Below w.heap.size w W) => Valid_sh s W (hI.below hW))
  have hB := ShBox.start w s 25
  have hf := shB_f hV
  rw [hf] at HV
  clear hf hI hV
  go_enter Try.func33, Try.ntmps33
  go_wp2_with fail
  have hb : Below w.heap.size w ((w.alloc (.cells #[.int .i64 s.O, .int .i64 s.C, .slice s.aH s.H.length s.cH, .int .i64 s.M, .slice s.aS s.S.length s.cS, .slice s.aJ s.J.length s.cJ] 25)).alloc (.cells #[.int .i64 0, .int .i64 0, .slice none 0 0, .int .i64 0, .slice none 0 0, .slice none 0 0] 25)) := hB.1.alloc (by simp) _
  refine (HV.out _ hb).mono ?_
  rintro e w1 ⟨rfl, hb1⟩
  obtain ⟨hc, hf⟩ := bcell hb1
  have hz : w.heap.size + 1 < w1.heap.size := by have := hb1.size; simp at this; omega
  have hbb := hb.trans (hb1.mono hb.size)
  clear hB HV hb1 hb
  go_wp2_with fail
  refine bodyPost_ret (v := .tuple #[.agg #[.int .i64 0, .int .i64 0, .slice none 0 0, .int .i64 0, .slice none 0 0, .slice none 0 0], .int .i64 50]) (by simp [results, Try.results33, hc, hz, go_sem]) rfl ⟨rfl, ?_⟩
  repeat (refine Below.setCell ?_ (by simp) _)
  exact hbb

theorem next_ok (s : Sh) (t m : Int) (w : World) (hI : ShS w s) (hV : ShOk s) (t0 : 0 ≤ t) (t1 : t ≤ 100000000) (m0 : 1 ≤ m) (m1 : m ≤ s.C - s.O) :
    Calls Try.prog 22 #[.agg #[.int .i64 s.O, .int .i64 s.C, .slice s.aH s.H.length s.cH, .int .i64 s.M, .slice s.aS s.S.length s.cS, .slice s.aJ s.J.length s.cJ], .int .i64 t, .int .i64 m] w fun e w' => e = .returned (.tuple #[.int .i64 (nextV s.O s.C s.H t m), .int .i64 0]) ∧ Below w.heap.size w w' := by
  have HV := Lib.hid (fun W (hW : Below w.heap.size w W) => Valid_sh s W (hI.below hW))
  have HN := Lib.hid (fun W (hW : Below w.heap.size w W) => next_sh s t m W (hI.below hW).1 hV.2.1 hV.1.1 hV.1.2.1 hV.1.2.2 t0 (by omega) (by omega) m1)
  have hB := ShBox.start w s 25
  have hf := shB_t hV
  rw [hf] at HV
  have HB1 := Lib.hid (btw_t t0 t1)
  have HB2 := Lib.hid (btw_t m0 m1)
  obtain ⟨o0, o1, o2⟩ := hV.1
  clear hf hI hV
  generalize nextV s.O s.C s.H t m = R at *
  go_enter Try.func22, Try.ntmps22
  go_wp2_with fail
  obtain ⟨wB, hwB⟩ : ∃ wB, w.alloc (.cells #[.int .i64 s.O, .int .i64 s.C, .slice s.aH s.H.length s.cH, .int .i64 s.M, .slice s.aS s.S.length s.cS, .slice s.aJ s.J.length s.cJ] 25) = wB := ⟨_, rfl⟩
  rw [hwB] at hB ⊢
  clear hwB
  refine (HV.out _ hB.1).mono ?_
  rintro e w1 ⟨rfl, hb1⟩
  obtain ⟨hb, p0, p1, p2, p3, p4, p5⟩ := hB.on hb1
  clear hb1 hB HV
  go_wp2_with (go_at_call 53; refine (sbt_any _ _ _ _).mono ?_; rintro e w' ⟨rfl, rfl⟩; first | rw [HB1.out] | rw [HB2.out])
  refine (HN.out _ hb).mono ?_
  rintro e w2 ⟨rfl, hb2⟩
  go_wp2_with fail
  go_returns
  exact ⟨rfl, hb.trans (hb2.mono hb.size)⟩
theorem next_arg (s : Sh) (t m : Int) (w : World) (hI : ShS w s) (hV : ShOk s) (h : ¬ ((0 ≤ t ∧ t ≤ 100000000) ∧ 1 ≤ m ∧ m ≤ s.C - s.O)) :
    Calls Try.prog 22 #[.agg #[.int .i64 s.O, .int .i64 s.C, .slice s.aH s.H.length s.cH, .int .i64 s.M, .slice s.aS s.S.length s.cS, .slice s.aJ s.J.length s.cJ], .int .i64 t, .int .i64 m] w fun e w' => e = .returned (.tuple #[.int .i64 0, .int .i64 2]) ∧ Below w.heap.size w w' := by
  have HV := Lib.hid (fun W (hW : Below w.heap.size w W) => Valid_sh s W (hI.below hW))
  have hB := ShBox.start w s 25
  have hf := shB_t hV
  rw [hf] at HV
  obtain ⟨o0, o1, o2⟩ := hV.1
  clear hf hI hV
  have hg : btw t 0 100000000 = true → btw m 1 (s.C - s.O) = false := fun g => btw_f fun k => h ⟨(btw_iff _ _ _).1 g, k⟩
  clear h
  cases h1 : btw t 0 100000000 with
  | true =>
    have HB2 := Lib.hid (hg h1)
    have HB1 := Lib.hid h1
    clear hg h1
    go_enter Try.func22, Try.ntmps22
    go_wp2_with fail
    obtain ⟨wB, hwB⟩ : ∃ wB, w.alloc (.cells #[.int .i64 s.O, .int .i64 s.C, .slice s.aH s.H.length s.cH, .int .i64 s.M, .slice s.aS s.S.length s.cS, .slice s.aJ s.J.length s.cJ] 25) = wB := ⟨_, rfl⟩
    rw [hwB] at hB ⊢
    clear hwB
    refine (HV.out _ hB.1).mono ?_
    rintro e w1 ⟨rfl, hb1⟩
    obtain ⟨hb, p0, p1, p2, p3, p4, p5⟩ := hB.on hb1
    clear hb1 hB HV
    go_wp2_with (go_at_call 53; refine (sbt_any _ _ _ _).mono ?_; rintro e w' ⟨rfl, rfl⟩; first | rw [HB1.out] | rw [HB2.out])
    go_returns
    exact ⟨rfl, hb⟩
  | false =>
    have HB1 := Lib.hid h1
    clear hg h1
    go_enter Try.func22, Try.ntmps22
    go_wp2_with fail
    obtain ⟨wB, hwB⟩ : ∃ wB, w.alloc (.cells #[.int .i64 s.O, .int .i64 s.C, .slice s.aH s.H.length s.cH, .int .i64 s.M, .slice s.aS s.S.length s.cS, .slice s.aJ s.J.length s.cJ] 25) = wB := ⟨_, rfl⟩
    rw [hwB] at hB ⊢
    clear hwB
    refine (HV.out _ hB.1).mono ?_
    rintro e w1 ⟨rfl, hb1⟩
    obtain ⟨hb, p0, p1, p2, p3, p4, p5⟩ := hB.on hb1
    clear hb1 hB HV
    go_wp2_with (go_at_call 53; refine (sbt_any _ _ _ _).mono ?_; rintro e w' ⟨rfl, rfl⟩; rw [HB1.out])
    go_returns
    exact ⟨rfl, hb⟩

theorem after_ok (s : Sh) (t : Int) (m : Nat) (w : World) (hI : ShS w s) (hV : ShOk s) (t0 : 0 ≤ t) (t1 : t ≤ 100000000) (m1 : m ≤ 1000000) :
    Calls Try.prog 24 #[.agg #[.int .i64 s.O, .int .i64 s.C, .slice s.aH s.H.length s.cH, .int .i64 s.M, .slice s.aS s.S.length s.cS, .slice s.aJ s.J.length s.cJ], .int .i64 t, .int .i64 m] w fun e w' => e = .returned (.tuple #[.int .i64 (aftV s.O s.C s.H t m), .int .i64 0]) ∧ Below w.heap.size w w' := by
  have HV := Lib.hid (fun W (hW : Below w.heap.size w W) => Valid_sh s W (hI.below hW))
  have HN := Lib.hid (fun W (hW : Below w.heap.size w W) => after_sh s t m W (hI.below hW).1 hV.2.1 hV.1.1 hV.1.2.1 hV.1.2.2 t0 (by omega) m1)
  have hB := ShBox.start w s 25
  have hf := shB_t hV
  rw [hf] at HV
  have HB1 := Lib.hid (btw_t t0 t1)
  have HB2 := Lib.hid (btw_t (show (0 : Int) ≤ m by omega) (show (m : Int) ≤ 1000000 by omega))
  clear hf hI hV
  generalize aftV s.O s.C s.H t m = R at *
  go_enter Try.func24, Try.ntmps24
  go_wp2_with fail
  obtain ⟨wB, hwB⟩ : ∃ wB, w.alloc (.cells #[.int .i64 s.O, .int .i64 s.C, .slice s.aH s.H.length s.cH, .int .i64 s.M, .slice s.aS s.S.length s.cS, .slice s.aJ s.J.length s.cJ] 25) = wB := ⟨_, rfl⟩
  rw [hwB] at hB ⊢
  clear hwB
  refine (HV.out _ hB.1).mono ?_
  rintro e w1 ⟨rfl, hb1⟩
  obtain ⟨hb, p0, p1, p2, p3, p4, p5⟩ := hB.on hb1
  clear hb1 hB HV
  go_wp2_with (go_at_call 53; refine (sbt_any _ _ _ _).mono ?_; rintro e w' ⟨rfl, rfl⟩; first | rw [HB1.out] | rw [HB2.out])
  refine (HN.out _ hb).mono ?_
  rintro e w2 ⟨rfl, hb2⟩
  go_wp2_with fail
  go_returns
  exact ⟨rfl, hb.trans (hb2.mono hb.size)⟩
theorem after_arg (s : Sh) (t m : Int) (w : World) (hI : ShS w s) (hV : ShOk s) (h : ¬ ((0 ≤ t ∧ t ≤ 100000000) ∧ 0 ≤ m ∧ m ≤ 1000000)) :
    Calls Try.prog 24 #[.agg #[.int .i64 s.O, .int .i64 s.C, .slice s.aH s.H.length s.cH, .int .i64 s.M, .slice s.aS s.S.length s.cS, .slice s.aJ s.J.length s.cJ], .int .i64 t, .int .i64 m] w fun e w' => e = .returned (.tuple #[.int .i64 0, .int .i64 2]) ∧ Below w.heap.size w w' := by
  have HV := Lib.hid (fun W (hW : Below w.heap.size w W) => Valid_sh s W (hI.below hW))
  have hB := ShBox.start w s 25
  have hf := shB_t hV
  rw [hf] at HV
  clear hf hI hV
  have hg : btw t 0 100000000 = true → btw m 0 1000000 = false := fun g => btw_f fun k => h ⟨(btw_iff _ _ _).1 g, k⟩
  clear h
  cases h1 : btw t 0 100000000 with
  | true =>
    have HB2 := Lib.hid (hg h1)
    have HB1 := Lib.hid h1
    clear hg h1
    go_enter Try.func24, Try.ntmps24
    go_wp2_with fail
    obtain ⟨wB, hwB⟩ : ∃ wB, w.alloc (.cells #[.int .i64 s.O, .int .i64 s.C, .slice s.aH s.H.length s.cH, .int .i64 s.M, .slice s.aS s.S.length s.cS, .slice s.aJ s.J.length s.cJ] 25) = wB := ⟨_, rfl⟩
    rw [hwB] at hB ⊢
    clear hwB
    refine (HV.out _ hB.1).mono ?_
    rintro e w1 ⟨rfl, hb1⟩
    obtain ⟨hb, p0, p1, p2, p3, p4, p5⟩ := hB.on hb1
    clear hb1 hB HV
    go_wp2_with (go_at_call 53; refine (sbt_any _ _ _ _).mono ?_; rintro e w' ⟨rfl, rfl⟩; first | rw [HB1.out] | rw [HB2.out])
    go_returns
    exact ⟨rfl, hb⟩
  | false =>
    have HB1 := Lib.hid h1
    clear hg h1
    go_enter Try.func24, Try.ntmps24
    go_wp2_with fail
    obtain ⟨wB, hwB⟩ : ∃ wB, w.alloc (.cells #[.int .i64 s.O, .int .i64 s.C, .slice s.aH s.H.length s.cH, .int .i64 s.M, .slice s.aS s.S.length s.cS, .slice s.aJ s.J.length s.cJ] 25) = wB := ⟨_, rfl⟩
    rw [hwB] at hB ⊢
    clear hwB
    refine (HV.out _ hB.1).mono ?_
    rintro e w1 ⟨rfl, hb1⟩
    obtain ⟨hb, p0, p1, p2, p3, p4, p5⟩ := hB.on hb1
    clear hb1 hB HV
    go_wp2_with (go_at_call 53; refine (sbt_any _ _ _ _).mono ?_; rintro e w' ⟨rfl, rfl⟩; rw [HB1.out])
    go_returns
    exact ⟨rfl, hb⟩

set_option maxRecDepth 100000 in
set_option maxHeartbeats 1000000 in
theorem worked_ok (s : Sh) (a b : Int) (w : World) (hI : ShS w s) (hV : ShOk s) (a0 : 0 ≤ a) (ab : a ≤ b) (b1 : b ≤ 100000000) :
    Calls Try.prog 23 #[.agg #[.int .i64 s.O, .int .i64 s.C, .slice s.aH s.H.length s.cH, .int .i64 s.M, .slice s.aS s.S.length s.cS, .slice s.aJ s.J.length s.cJ], .int .i64 a, .int .i64 b] w fun e w' => e = .returned (.tuple #[.int .i64 (opnB s.O s.C s.H b - opnB s.O s.C s.H a), .int .i64 0]) ∧ Below w.heap.size w w' := by
  have HV := Lib.hid (fun W (hW : Below w.heap.size w W) => Valid_sh s W (hI.below hW))
  have HO := Lib.hid (fun u u0 u1 W (hW : Below w.heap.size w W) => open_sh s u W (hI.below hW).1 hV.2.1 hV.1.1 hV.1.2.1 hV.1.2.2 u0 u1)
  have ba := opnB_bd (O := s.O) (C := s.C) hV.2.1.asc hV.2.1.pos hV.1.1 hV.1.2.1 hV.1.2.2 a0
  have bb := opnB_bd (O := s.O) (C := s.C) hV.2.1.asc hV.2.1.pos hV.1.1 hV.1.2.1 hV.1.2.2 (show 0 ≤ b by omega)
  have hB := ShBox.start w s 25
  have hf := shB_t hV
  rw [hf] at HV
  have HB1 := Lib.hid (btw_t a0 ab)
  have b2 : ¬ 100000000 < b := by omega
  have a9 : a ≤ 10000000000 := by omega
  have b0 : 0 ≤ b := by omega
  have b9 : b ≤ 10000000000 := by omega
  obtain ⟨f, hfun⟩ : ∃ f : Int → Int, (fun x => opnB s.O s.C s.H x) = f := ⟨_, rfl⟩
  have hfun2 : ∀ x, opnB s.O s.C s.H x = f x := fun x => by rw [← hfun]
  simp only [hfun2] at HO ba bb ⊢
  have ws : IntKind.i64.wrap (f b - f a) = f b - f a := IntWalk.i64_in _ (by omega)
  clear hf hI hV hfun hfun2
  go_enter Try.func23, Try.ntmps23
  go_wp2_with fail
  obtain ⟨wB, hwB⟩ : ∃ wB, w.alloc (.cells #[.int .i64 s.O, .int .i64 s.C, .slice s.aH s.H.length s.cH, .int .i64 s.M, .slice s.aS s.S.length s.cS, .slice s.aJ s.J.length s.cJ] 25) = wB := ⟨_, rfl⟩
  rw [hwB] at hB ⊢
  clear hwB
  refine (HV.out _ hB.1).mono ?_
  rintro e w1 ⟨rfl, hb1⟩
  have HB4 := Lib.hid (hB.on hb1)
  obtain ⟨hb, p0, p1, p2, p3, p4, p5⟩ := hB.on hb1
  clear hb1 hB HV
  go_wp2_with (go_at_call 53; refine (sbt_any _ _ _ _).mono ?_; rintro e w' ⟨rfl, rfl⟩; rw [HB1.out])
  have hB := hb
  have z0 := block_lt p0
  clear HB4 hb
  go_region_held3 (fun w' => w'.cell? ⟨w.heap.size, 0, none⟩ = some (.int .i64 s.O) ∧ w'.cell? ⟨w.heap.size, 1, none⟩ = some (.int .i64 s.C) ∧ w'.cell? ⟨w.heap.size, 2, none⟩ = some (.slice s.aH s.H.length s.cH) ∧ w'.cell? ⟨w.heap.size, 3, none⟩ = some (.int .i64 s.M) ∧ w'.cell? ⟨w.heap.size, 4, none⟩ = some (.slice s.aS s.S.length s.cS) ∧ w'.cell? ⟨w.heap.size, 5, none⟩ = some (.slice s.aJ s.J.length s.cJ)) (go_keep)
    ((go_at_call 55
      refine (HO.out _ (by first | exact a0 | exact b0) (by first | exact a9 | exact b9) _ (by first | exact hB.drew | exact hB | exact hB.drew.drew | exact below_drewN hB _ | exact below_drewN hB.drew _)).mono ?_
      rintro E w9 ⟨rfl, hb9⟩
      have p0 := (hb9.cell (p := ⟨w.heap.size, 0, none⟩) z0).trans p0
      have p1 := (hb9.cell (p := ⟨w.heap.size, 1, none⟩) z0).trans p1
      have p2 := (hb9.cell (p := ⟨w.heap.size, 2, none⟩) z0).trans p2
      have p3 := (hb9.cell (p := ⟨w.heap.size, 3, none⟩) z0).trans p3
      have p4 := (hb9.cell (p := ⟨w.heap.size, 4, none⟩) z0).trans p4
      have p5 := (hb9.cell (p := ⟨w.heap.size, 5, none⟩) z0).trans p5
      have hB : Below w.heap.size w w9 := by first | exact (hB.drew).trans (hb9.mono hB.size) | exact hB.trans (hb9.mono hB.size)
      have z0 := Nat.lt_of_lt_of_le z0 hb9.size))
  all_goals
    go_wp2_with fail
    go_returns
    exact ⟨rfl, hB⟩
theorem worked_arg (s : Sh) (a b : Int) (w : World) (hI : ShS w s) (hV : ShOk s) (h : ¬ (0 ≤ a ∧ a ≤ b ∧ b ≤ 100000000)) :
    Calls Try.prog 23 #[.agg #[.int .i64 s.O, .int .i64 s.C, .slice s.aH s.H.length s.cH, .int .i64 s.M, .slice s.aS s.S.length s.cS, .slice s.aJ s.J.length s.cJ], .int .i64 a, .int .i64 b] w fun e w' => e = .returned (.tuple #[.int .i64 0, .int .i64 2]) ∧ Below w.heap.size w w' := by
  have HV := Lib.hid (fun W (hW : Below w.heap.size w W) => Valid_sh s W (hI.below hW))
  have hB := ShBox.start w s 25
  have hf := shB_t hV
  rw [hf] at HV
  clear hf hI hV
  have hg : btw a 0 b = true → 100000000 < b := fun g => by
    have := (btw_iff _ _ _).1 g
    by_cases k : b ≤ 100000000
    · exact absurd ⟨this.1, this.2, k⟩ h
    · omega
  clear h
  cases h1 : btw a 0 b with
  | true =>
    have hb2 := hg h1
    have HB1 := Lib.hid h1
    clear hg h1
    go_enter Try.func23, Try.ntmps23
    go_wp2_with fail
    obtain ⟨wB, hwB⟩ : ∃ wB, w.alloc (.cells #[.int .i64 s.O, .int .i64 s.C, .slice s.aH s.H.length s.cH, .int .i64 s.M, .slice s.aS s.S.length s.cS, .slice s.aJ s.J.length s.cJ] 25) = wB := ⟨_, rfl⟩
    rw [hwB] at hB ⊢
    clear hwB
    refine (HV.out _ hB.1).mono ?_
    rintro e w1 ⟨rfl, hb1⟩
    obtain ⟨hb, p0, p1, p2, p3, p4, p5⟩ := hB.on hb1
    clear hb1 hB HV
    go_wp2_with (go_at_call 53; refine (sbt_any _ _ _ _).mono ?_; rintro e w' ⟨rfl, rfl⟩; rw [HB1.out])
    go_returns
    exact ⟨rfl, hb⟩
  | false =>
    have HB1 := Lib.hid h1
    clear hg h1
    go_enter Try.func23, Try.ntmps23
    go_wp2_with fail
    obtain ⟨wB, hwB⟩ : ∃ wB, w.alloc (.cells #[.int .i64 s.O, .int .i64 s.C, .slice s.aH s.H.length s.cH, .int .i64 s.M, .slice s.aS s.S.length s.cS, .slice s.aJ s.J.length s.cJ] 25) = wB := ⟨_, rfl⟩
    rw [hwB] at hB ⊢
    clear hwB
    refine (HV.out _ hB.1).mono ?_
    rintro e w1 ⟨rfl, hb1⟩
    obtain ⟨hb, p0, p1, p2, p3, p4, p5⟩ := hB.on hb1
    clear hb1 hB HV
    go_wp2_with (go_at_call 53; refine (sbt_any _ _ _ _).mono ?_; rintro e w' ⟨rfl, rfl⟩; rw [HB1.out])
    go_returns
    exact ⟨rfl, hb⟩
end Go.Proofs.Ytmdifgkalooaoaa
