/-
  The reference's versions, Valid, Length and At. By an AI agent.
-/
import Derived.Test.YtacmeadmmjehmaaRoadPl
import Derived.Test.YtacmeadmmjehmaaRoadF
namespace Go.Proofs.Ytacmeadmmjehmaa
set_option linter.unusedVariables false
set_option linter.unusedSimpArgs false
open Go.RowKit

/-- What versions returns. -/
def VerE (w : World) (N L : Int) (l : List Chg) (u v : Int) (e : Ending) (w' : World) : Prop := (errL N L l [u, v] = 0 ∧ ∃ b c, e = .returned (.tuple #[.slice b (l.length + 1) c, .int .i64 0]) ∧ IntsC w' b (lensL L l l.length) ∧ Below w.heap.size w w') ∨ (errL N L l [u, v] ≠ 0 ∧ e = .returned (.tuple #[.slice none 0 0, .int .i64 (errL N L l [u, v])]) ∧ Below w.heap.size w w')
theorem win_f {u v : Int} {n : Nat} (h : u < 0 ∨ (n : Int) < u ∨ v < 0 ∨ (n : Int) < v) : winB 0 n [u, v] = false := by
  rw [win2, ← Bool.not_eq_true, Bool.and_eq_true, btw_iff, btw_iff]; omega
theorem win_t {u v : Int} {n : Nat} (h : (0 ≤ u ∧ u ≤ n) ∧ 0 ≤ v ∧ v ≤ n) : winB 0 n [u, v] = true := by
  rw [win2, Bool.and_eq_true, btw_iff, btw_iff]; exact h
set_option maxRecDepth 100000 in
set_option maxHeartbeats 1000000 in
theorem versions_any (N L : Int) (a : Option Addr) (l : List Chg) (ca : Nat) (u v : Int) (w : World) (hA : QuadS w a l) :
    Calls Try.prog 49 #[.agg #[.int .i64 N, .int .i64 L, .slice a l.length ca], .int .i64 u, .int .i64 v] w (VerE w N L l u v) := by
  have HLn := Lib.hid (fun W (hW : Below w.heap.size w W) => lengths_any N L a l ca W (hA.below hW))
  have hlen := hA.1
  clear hA
  by_cases hr : RoadOk N L l
  · have h40 := hr.2.2.1
    have hcase : u < 0 ∨ (0 ≤ u ∧ (l.length : Int) + 1 ≤ u) ∨ (0 ≤ u ∧ u < (l.length : Int) + 1 ∧ v < 0) ∨ (0 ≤ u ∧ u < (l.length : Int) + 1 ∧ 0 ≤ v ∧ (l.length : Int) + 1 ≤ v) ∨ (0 ≤ u ∧ u < (l.length : Int) + 1 ∧ 0 ≤ v ∧ v < (l.length : Int) + 1) := by omega
    have HLn : Hid (∀ W, Below w.heap.size w W → Calls Try.prog 55 #[.agg #[.int .i64 N, .int .i64 L, .slice a l.length ca]] W fun e w' => ∃ b c, e = .returned (.tuple #[.slice b (l.length + 1) c, .bool true]) ∧ IntsC w' b (lensL L l l.length) ∧ Below W.heap.size W w') := Lib.hid fun W hW => (HLn.out W hW).mono fun e w' h => by
      rcases h with ⟨_, h⟩ | ⟨h, _⟩
      · exact h
      · exact absurd hr h
    have HE : Hid (∀ W, (u < 0 ∨ (l.length : Int) < u ∨ v < 0 ∨ (l.length : Int) < v) → Below w.heap.size w W → VerE w N L l u v (.returned (.tuple #[.slice none 0 0, .int .i64 61])) W) := Lib.hid fun W h hW => by
      have he := errL_ver hr (win_f h)
      exact .inr ⟨by rw [he]; decide, by rw [he], hW⟩
    have HG : Hid (∀ b c W, ((0 ≤ u ∧ u ≤ (l.length : Int)) ∧ 0 ≤ v ∧ v ≤ (l.length : Int)) → IntsC W b (lensL L l l.length) → Below w.heap.size w W → VerE w N L l u v (.returned (.tuple #[.slice b (l.length + 1) c, .int .i64 0])) W) := Lib.hid fun b c W h h1 h2 => .inl ⟨errL_ok hr (win_t h), b, c, rfl, h1, h2⟩
    rcases hcase with c1 | ⟨c1, c2⟩ | ⟨c1, c2, c3⟩ | ⟨c1, c2, c3, c4⟩ | ⟨c1, c2, c3, c4⟩
    · 
      go_enter Try.func49, Try.ntmps49
      go_wp2_with fail
      obtain ⟨wB, hwB⟩ : ∃ wB, w.alloc (.cells #[.int .i64 N, .int .i64 L, .slice a l.length ca] 24) = wB := ⟨_, rfl⟩
      have hB := RdBox.start w N L a l ca 24
      rw [hwB] at hB ⊢
      clear hwB
      have HB := Lib.hid hB
      obtain ⟨hb, p0, p1, p2⟩ := hB
      refine (HLn.out _ hb).mono ?_
      rintro e w1 ⟨b, c, rfl, hI, hb1⟩
      have hI := Lib.hid hI
      have HB := Lib.hid (HB.out.on hb1)
      obtain ⟨hb, p0, p1, p2⟩ := HB.out
      clear hb1
      go_wp2_with fail
      go_ret2
      exact HE.out _ (by omega) hb
    · 
      go_enter Try.func49, Try.ntmps49
      go_wp2_with fail
      obtain ⟨wB, hwB⟩ : ∃ wB, w.alloc (.cells #[.int .i64 N, .int .i64 L, .slice a l.length ca] 24) = wB := ⟨_, rfl⟩
      have hB := RdBox.start w N L a l ca 24
      rw [hwB] at hB ⊢
      clear hwB
      have HB := Lib.hid hB
      obtain ⟨hb, p0, p1, p2⟩ := hB
      refine (HLn.out _ hb).mono ?_
      rintro e w1 ⟨b, c, rfl, hI, hb1⟩
      have hI := Lib.hid hI
      have HB := Lib.hid (HB.out.on hb1)
      obtain ⟨hb, p0, p1, p2⟩ := HB.out
      clear hb1
      go_wp2_with fail
      go_ret2
      exact HE.out _ (by omega) hb
    · 
      go_enter Try.func49, Try.ntmps49
      go_wp2_with fail
      obtain ⟨wB, hwB⟩ : ∃ wB, w.alloc (.cells #[.int .i64 N, .int .i64 L, .slice a l.length ca] 24) = wB := ⟨_, rfl⟩
      have hB := RdBox.start w N L a l ca 24
      rw [hwB] at hB ⊢
      clear hwB
      have HB := Lib.hid hB
      obtain ⟨hb, p0, p1, p2⟩ := hB
      refine (HLn.out _ hb).mono ?_
      rintro e w1 ⟨b, c, rfl, hI, hb1⟩
      have hI := Lib.hid hI
      have HB := Lib.hid (HB.out.on hb1)
      obtain ⟨hb, p0, p1, p2⟩ := HB.out
      clear hb1
      go_wp2_with fail
      go_ret2
      exact HE.out _ (by omega) hb
    · 
      go_enter Try.func49, Try.ntmps49
      go_wp2_with fail
      obtain ⟨wB, hwB⟩ : ∃ wB, w.alloc (.cells #[.int .i64 N, .int .i64 L, .slice a l.length ca] 24) = wB := ⟨_, rfl⟩
      have hB := RdBox.start w N L a l ca 24
      rw [hwB] at hB ⊢
      clear hwB
      have HB := Lib.hid hB
      obtain ⟨hb, p0, p1, p2⟩ := hB
      refine (HLn.out _ hb).mono ?_
      rintro e w1 ⟨b, c, rfl, hI, hb1⟩
      have hI := Lib.hid hI
      have HB := Lib.hid (HB.out.on hb1)
      obtain ⟨hb, p0, p1, p2⟩ := HB.out
      clear hb1
      go_wp2_with fail
      go_ret2
      exact HE.out _ (by omega) hb
    · 
      go_enter Try.func49, Try.ntmps49
      go_wp2_with fail
      obtain ⟨wB, hwB⟩ : ∃ wB, w.alloc (.cells #[.int .i64 N, .int .i64 L, .slice a l.length ca] 24) = wB := ⟨_, rfl⟩
      have hB := RdBox.start w N L a l ca 24
      rw [hwB] at hB ⊢
      clear hwB
      have HB := Lib.hid hB
      obtain ⟨hb, p0, p1, p2⟩ := hB
      refine (HLn.out _ hb).mono ?_
      rintro e w1 ⟨b, c, rfl, hI, hb1⟩
      have hI := Lib.hid hI
      have HB := Lib.hid (HB.out.on hb1)
      obtain ⟨hb, p0, p1, p2⟩ := HB.out
      clear hb1
      go_wp2_with fail
      go_ret2
      exact HG.out _ _ _ ⟨⟨c1, by omega⟩, c3, by omega⟩ hI.out hb
  · have he := errL_road (N := N) (L := L) (l := l) hr [u, v]
    have HLn : Hid (∀ W, Below w.heap.size w W → Calls Try.prog 55 #[.agg #[.int .i64 N, .int .i64 L, .slice a l.length ca]] W fun e w' => e = .returned (.tuple #[.slice none 0 0, .bool false]) ∧ Below W.heap.size W w') := Lib.hid fun W hW => (HLn.out W hW).mono fun e w' h => by
      rcases h with ⟨h, _⟩ | ⟨_, h⟩
      · exact absurd h hr
      · exact h
    have HE : Hid (∀ W, Below w.heap.size w W → VerE w N L l u v (.returned (.tuple #[.slice none 0 0, .int .i64 60])) W) := Lib.hid fun W hW => .inr ⟨by rw [he]; decide, by rw [he], hW⟩
    go_enter Try.func49, Try.ntmps49
    go_wp2_with fail
    obtain ⟨wB, hwB⟩ : ∃ wB, w.alloc (.cells #[.int .i64 N, .int .i64 L, .slice a l.length ca] 24) = wB := ⟨_, rfl⟩
    have hB := RdBox.start w N L a l ca 24
    rw [hwB] at hB ⊢
    clear hwB
    have HB := Lib.hid hB
    obtain ⟨hb, p0, p1, p2⟩ := hB
    refine (HLn.out _ hb).mono ?_
    rintro e w1 ⟨rfl, hb1⟩
    have HB := Lib.hid (HB.out.on hb1)
    obtain ⟨hb, p0, p1, p2⟩ := HB.out
    clear hb1
    go_wp2_with fail
    go_ret2
    exact HE.out _ hb

theorem refValid_any (N L : Int) (a : Option Addr) (l : List Chg) (ca : Nat) (w : World) (hA : QuadS w a l) :
    Calls Try.prog 22 #[.agg #[.int .i64 N, .int .i64 L, .slice a l.length ca]] w fun e w' => e = .returned (.bool (roadB N L l)) ∧ Below w.heap.size w w' := by
  have HLn : Hid (∀ W, Below w.heap.size w W → Calls Try.prog 55 #[.agg #[.int .i64 N, .int .i64 L, .slice a l.length ca]] W fun e w' => (∃ b n c, e = .returned (.tuple #[.slice b n c, .bool (roadB N L l)])) ∧ Below W.heap.size W w') := Lib.hid fun W hW => (lengths_any N L a l ca W (hA.below hW)).mono fun e w' h => by
    rcases h with ⟨h, b, c, he, _, hb⟩ | ⟨h, he, hb⟩
    · exact ⟨⟨b, _, c, by rw [he, roadB_t h]⟩, hb⟩
    · exact ⟨⟨none, 0, 0, by rw [he, roadB_f h]⟩, hb⟩
  generalize roadB N L l = RB at *
  clear hA
  go_enter Try.func22, Try.ntmps22
  go_wp2_with fail
  obtain ⟨wB, hwB⟩ : ∃ wB, w.alloc (.cells #[.int .i64 N, .int .i64 L, .slice a l.length ca] 24) = wB := ⟨_, rfl⟩
  have hB := RdBox.start w N L a l ca 24
  rw [hwB] at hB ⊢
  clear hwB
  have HB := Lib.hid hB
  obtain ⟨hb, p0, p1, p2⟩ := hB
  refine (HLn.out _ hb).mono ?_
  rintro e w1 ⟨⟨b, n, c, rfl⟩, hb1⟩
  have HB := Lib.hid (HB.out.on hb1)
  obtain ⟨hb, p0, p1, p2⟩ := HB.out
  clear hb1
  go_wp2_with fail
  go_ret
  exact ⟨rfl, hb⟩

theorem err_two (N L : Int) (l : List Chg) (v : Int) : errL N L l [v, v] = errL N L l [v] := by
  unfold errL; rw [win1, win2, Bool.and_self]
set_option maxRecDepth 100000 in
set_option maxHeartbeats 1000000 in
theorem refLength_any (N L : Int) (a : Option Addr) (l : List Chg) (ca : Nat) (v : Int) (w : World) (hA : QuadS w a l) :
    Calls Try.prog 18 #[.agg #[.int .i64 N, .int .i64 L, .slice a l.length ca], .int .i64 v] w fun e w' => e = .returned (.tuple #[.int .i64 (lenV N L l v), .int .i64 (errL N L l [v])]) ∧ Below w.heap.size w w' := by
  have HV := Lib.hid (fun W (hW : Below w.heap.size w W) => versions_any N L a l ca v v W (hA.below hW))
  have hlen := hA.1
  rcases errL_cases N L l [v] with ⟨hr, hw, he⟩ | he | he
  · have hv : lenV N L l v = lenK L l v.toNat := by unfold lenV; rw [if_pos he]
    rw [win1, btw_iff] at hw
    obtain ⟨k, rfl⟩ : ∃ n : Nat, v = n := ⟨v.toNat, by omega⟩
    have hk : k ≤ l.length := by omega
    have HV : Hid (∀ W, Below w.heap.size w W → Calls Try.prog 49 #[.agg #[.int .i64 N, .int .i64 L, .slice a l.length ca], .int .i64 k, .int .i64 k] W fun e w' => ∃ b c, e = .returned (.tuple #[.slice b (l.length + 1) c, .int .i64 0]) ∧ (∃ blk off, b = some ⟨blk, off, none⟩ ∧ w'.cell? ⟨blk, off + k, none⟩ = some (.int .i64 (lenK L l k))) ∧ Below W.heap.size W w') := Lib.hid fun W hW => (HV.out W hW).mono fun e w' h => by
      rcases h with ⟨h, b, c, e1, hI, hb⟩ | ⟨h, _⟩
      · obtain ⟨_, blk, off, h1, h2⟩ := hI
        have hll := lens_len L l l.length
        have h3 := h2 k (by omega)
        rw [lens_at L l hk] at h3
        exact ⟨b, c, e1, ⟨blk, off, h1 (pos_ne (n := 0) (i := 0) (by omega)), h3⟩, hb⟩
      · rw [err_two] at h; exact absurd he h
    rw [hv, he, Int.toNat_natCast]
    generalize lenK L l k = n at *
    have hk1 : (k : Int) < (l.length : Int) + 1 := by omega
    have hk2 : (0 : Int) ≤ (k : Int) := by omega
    clear hA hv he hr hw hk
    go_enter Try.func18, Try.ntmps18
    go_wp2_with fail
    obtain ⟨wB, hwB⟩ : ∃ wB, w.alloc (.cells #[.int .i64 N, .int .i64 L, .slice a l.length ca] 24) = wB := ⟨_, rfl⟩
    have hB := RdBox.start w N L a l ca 24
    rw [hwB] at hB ⊢
    clear hwB
    have HB := Lib.hid hB
    obtain ⟨hb, p0, p1, p2⟩ := hB
    refine (HV.out _ hb).mono ?_
    rintro e w1 ⟨b, c, rfl, ⟨blk, off, rfl, hc⟩, hb1⟩
    have HB := Lib.hid (HB.out.on hb1)
    obtain ⟨hb, p0, p1, p2⟩ := HB.out
    clear hb1
    go_wp2_with fail
    go_ret2
    exact ⟨rfl, hb⟩

  · have hv : lenV N L l v = 0 := by unfold lenV; rw [he]; rfl
    have HV : Hid (∀ W, Below w.heap.size w W → Calls Try.prog 49 #[.agg #[.int .i64 N, .int .i64 L, .slice a l.length ca], .int .i64 v, .int .i64 v] W fun e w' => e = .returned (.tuple #[.slice none 0 0, .int .i64 60]) ∧ Below W.heap.size W w') := Lib.hid fun W hW => (HV.out W hW).mono fun e w' h => by
      rw [← err_two] at he
      rcases h with ⟨h, _⟩ | ⟨_, h1, h2⟩
      · rw [he] at h; exact absurd h (by decide)
      · rw [he] at h1; exact ⟨h1, h2⟩
    rw [hv, he]
    clear hA hv he
    go_enter Try.func18, Try.ntmps18
    go_wp2_with fail
    obtain ⟨wB, hwB⟩ : ∃ wB, w.alloc (.cells #[.int .i64 N, .int .i64 L, .slice a l.length ca] 24) = wB := ⟨_, rfl⟩
    have hB := RdBox.start w N L a l ca 24
    rw [hwB] at hB ⊢
    clear hwB
    have HB := Lib.hid hB
    obtain ⟨hb, p0, p1, p2⟩ := hB
    refine (HV.out _ hb).mono ?_
    rintro e w1 ⟨rfl, hb1⟩
    have HB := Lib.hid (HB.out.on hb1)
    obtain ⟨hb, p0, p1, p2⟩ := HB.out
    clear hb1
    go_wp2_with fail
    go_ret2
    exact ⟨rfl, hb⟩

  · have hv : lenV N L l v = 0 := by unfold lenV; rw [he]; rfl
    have HV : Hid (∀ W, Below w.heap.size w W → Calls Try.prog 49 #[.agg #[.int .i64 N, .int .i64 L, .slice a l.length ca], .int .i64 v, .int .i64 v] W fun e w' => e = .returned (.tuple #[.slice none 0 0, .int .i64 61]) ∧ Below W.heap.size W w') := Lib.hid fun W hW => (HV.out W hW).mono fun e w' h => by
      rw [← err_two] at he
      rcases h with ⟨h, _⟩ | ⟨_, h1, h2⟩
      · rw [he] at h; exact absurd h (by decide)
      · rw [he] at h1; exact ⟨h1, h2⟩
    rw [hv, he]
    clear hA hv he
    go_enter Try.func18, Try.ntmps18
    go_wp2_with fail
    obtain ⟨wB, hwB⟩ : ∃ wB, w.alloc (.cells #[.int .i64 N, .int .i64 L, .slice a l.length ca] 24) = wB := ⟨_, rfl⟩
    have hB := RdBox.start w N L a l ca 24
    rw [hwB] at hB ⊢
    clear hwB
    have HB := Lib.hid hB
    obtain ⟨hb, p0, p1, p2⟩ := hB
    refine (HV.out _ hb).mono ?_
    rintro e w1 ⟨rfl, hb1⟩
    have HB := Lib.hid (HB.out.on hb1)
    obtain ⟨hb, p0, p1, p2⟩ := HB.out
    clear hb1
    go_wp2_with fail
    go_ret2
    exact ⟨rfl, hb⟩

set_option maxRecDepth 100000 in
set_option maxHeartbeats 1000000 in
theorem refAt_any (N L : Int) (a : Option Addr) (l : List Chg) (ca : Nat) (d : Int) (w : World) (hA : QuadS w a l) :
    Calls Try.prog 20 #[.agg #[.int .i64 N, .int .i64 L, .slice a l.length ca], .int .i64 d] w fun e w' => e = .returned (.tuple #[.int .i64 (atV N L l d), .int .i64 (atE N L l d)]) ∧ Below w.heap.size w w' := by
  have HE := Lib.hid (fun W (hW : Below w.heap.size w W) => refValid_any N L a l ca W (hA.below hW))
  have hlen := hA.1
  by_cases hr : RoadOk N L l
  · rw [roadB_t hr] at HE
    by_cases hd : 0 ≤ d ∧ d ≤ 100000
    · have B1 := Lib.hid (btw_t hd.1 hd.2)
      have he : atE N L l d = 0 := by unfold atE; rw [roadB_t hr, btw_t hd.1 hd.2]; rfl
      have hv : atV N L l d = atK l d l.length := by unfold atV; rw [he]; rfl
      rw [he, hv]
      obtain ⟨-, -, blk, off, hadr, hc⟩ := hA
      have HC := Lib.hid hc
      have HA : Hid (0 < l.length → a = some ⟨blk, off, none⟩) := Lib.hid fun h => hadr (pos_ne (n := 0) h)
      have HN : Hid (∀ k, atK l d (k + 1) = if (gc l k).1 ≤ d then k + 1 else atK l d k) := Lib.hid fun k => rfl
      have H0 : Hid (atK l d 0 = 0) := Lib.hid rfl
      clear hr he hv hd hc hadr
      go_enter Try.func20, Try.ntmps20
      go_wp2_with fail
      obtain ⟨wB, hwB⟩ : ∃ wB, w.alloc (.cells #[.int .i64 N, .int .i64 L, .slice a l.length ca] 24) = wB := ⟨_, rfl⟩
      have hB := RdBox.start w N L a l ca 24
      rw [hwB] at hB ⊢
      clear hwB
      have HB := Lib.hid hB
      obtain ⟨hb, p0, p1, p2⟩ := hB
      refine (HE.out _ hb).mono ?_
      rintro e w1 ⟨rfl, hb1⟩
      have HB := Lib.hid (HB.out.on hb1)
      obtain ⟨hb, p0, p1, p2⟩ := HB.out
      clear hb1
      go_wp2_with (go_at_call 53; refine (from_any _ _ _ _).mono ?_; rintro e w' ⟨rfl, rfl⟩; rw [B1.out])
      go_loopw [6, 7] (fun n i wr => ∃ k : Nat, k ≤ l.length ∧ n = .int .i64 (atK l d k : Nat) ∧ i = .int .i64 k ∧ RdBox w wr N L a l ca) (fun _ i _ => l.length - (intOf i).toNat)
      case atStart => exact ⟨0, Nat.zero_le _, by rw [H0.out]; rfl, rfl, HB.out⟩
      case round =>
        obtain ⟨k, hk, rfl, rfl, hB⟩ := hrel
        obtain ⟨hb, p0, p1, p2⟩ := hB
        by_cases hlt : k < l.length
        · obtain rfl := HA.out (by omega)
          obtain ⟨c0, -⟩ := HC.out k hlt
          have c0 := cell_below c0 hb
          have HX := Lib.hid (HN.out k)
          have HB := Lib.hid (show RdBox w wr N L (some ⟨blk, off, none⟩) l ca from ⟨hb, p0, p1, p2⟩)
          have hkl : (k : Int) < (l.length : Int) := by omega
          clear HC HA HN H0
          generalize (gc l k).1 = x at *
          by_cases hx : x ≤ d
          · have HX2 : Hid (atK l d (k + 1) = k + 1) := Lib.hid (by rw [HX.out, if_pos hx])
            clear HX
            go_wp2_with fail
            go_roundw
            case rel => exact ⟨k + 1, by omega, by rw [HX2.out]; go_num, by go_num, HB.out⟩
            case measure => simp [intOf]; omega
          · have HX2 : Hid (atK l d (k + 1) = atK l d k) := Lib.hid (by rw [HX.out, if_neg hx])
            clear HX
            go_wp2_with fail
            go_roundw
            case rel => exact ⟨k + 1, by omega, by rw [HX2.out], by go_num, HB.out⟩
            case measure => simp [intOf]; omega
        · obtain rfl : k = l.length := by omega
          clear HC HA HN H0
          go_wp2_with fail
          go_ret2
          exact ⟨rfl, hb⟩

    · have B1 := Lib.hid (btw_f hd)
      have he : atE N L l d = 2 := by unfold atE; rw [roadB_t hr, btw_f hd]; rfl
      have hv : atV N L l d = 0 := by unfold atV; rw [he]; rfl
      rw [he, hv]
      clear hA hr he hv hd
      go_enter Try.func20, Try.ntmps20
      go_wp2_with fail
      obtain ⟨wB, hwB⟩ : ∃ wB, w.alloc (.cells #[.int .i64 N, .int .i64 L, .slice a l.length ca] 24) = wB := ⟨_, rfl⟩
      have hB := RdBox.start w N L a l ca 24
      rw [hwB] at hB ⊢
      clear hwB
      have HB := Lib.hid hB
      obtain ⟨hb, p0, p1, p2⟩ := hB
      refine (HE.out _ hb).mono ?_
      rintro e w1 ⟨rfl, hb1⟩
      have HB := Lib.hid (HB.out.on hb1)
      obtain ⟨hb, p0, p1, p2⟩ := HB.out
      clear hb1
      go_wp2_with (go_at_call 53; refine (from_any _ _ _ _).mono ?_; rintro e w' ⟨rfl, rfl⟩; rw [B1.out])
      go_ret2
      exact ⟨rfl, hb⟩

  · rw [roadB_f hr] at HE
    have he : atE N L l d = 60 := by unfold atE; rw [roadB_f hr]; rfl
    have hv : atV N L l d = 0 := by unfold atV; rw [he]; rfl
    rw [he, hv]
    clear hA hr he hv
    go_enter Try.func20, Try.ntmps20
    go_wp2_with fail
    obtain ⟨wB, hwB⟩ : ∃ wB, w.alloc (.cells #[.int .i64 N, .int .i64 L, .slice a l.length ca] 24) = wB := ⟨_, rfl⟩
    have hB := RdBox.start w N L a l ca 24
    rw [hwB] at hB ⊢
    clear hwB
    have HB := Lib.hid hB
    obtain ⟨hb, p0, p1, p2⟩ := hB
    refine (HE.out _ hb).mono ?_
    rintro e w1 ⟨rfl, hb1⟩
    have HB := Lib.hid (HB.out.on hb1)
    obtain ⟨hb, p0, p1, p2⟩ := HB.out
    clear hb1
    go_wp2_with fail
    go_ret2
    exact ⟨rfl, hb⟩

end Go.Proofs.Ytacmeadmmjehmaa
