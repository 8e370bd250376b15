/-
  The walks of the reference's Worked and After. By an AI agent.; The walks of Chain of both. By an AI agent.; The walks of load and Load of package shop. By an AI agent.; The walk of the reference's list of all steps. By an AI agent.
-/
import Derived.Test.YtgphkfonjfdifaaMgShopOrders3
import Derived.Deep.RegionHeld3
import Derived.Deep.AppendLies

namespace Go.Proofs.Ytgphkfonjfdifaa
set_option linter.unusedVariables false
set_option linter.unusedSimpArgs false
open Go.RowKit

end Go.Proofs.Ytgphkfonjfdifaa

namespace Go.Proofs.Ytgphkfonjfdifaa
set_option linter.unusedVariables false
set_option linter.unusedSimpArgs false
open Go.RowKit

end Go.Proofs.Ytgphkfonjfdifaa

namespace Go.Proofs.Ytgphkfonjfdifaa
set_option linter.unusedVariables false
set_option linter.unusedSimpArgs false
open Go.RowKit

/-- The minutes of the first k steps of a job that are on a machine. -/
def ldK (l : List Stp) (m : Int) : Nat → Int
  | 0 => 0
  | k + 1 => ldK l m k + if (gs l k).1 = m then (gs l k).2.1 else 0
/-- The minutes of the first i jobs on a machine. -/
def ldJ (J : List (List Stp)) (m : Int) : Nat → Int
  | 0 => 0
  | i + 1 => ldJ J m i + ldK (gj J i) m (gj J i).length
def ldV (s : Sh) (m : Int) : Int := ldJ s.J m s.J.length
noncomputable def loadV (s : Sh) (m : Int) : Int := aftV s.O s.C s.H 0 (ldV s m)
end Go.Proofs.Ytgphkfonjfdifaa

namespace Go.Proofs.Ytgphkfonjfdifaa
set_option linter.unusedVariables false
set_option linter.unusedSimpArgs false
open Go.RowKit

theorem pairInfo : (Try.prog.info? 76).map (fun i => (i.zero, i.size, i.bytes)) = some (some (.agg #[.int .i64 0, .int .i64 0]), 2, 16) := by kernel_rfl
def clS (s : List (Int × Int)) : List Value := s.flatMap fun p => [.int .i64 p.1, .int .i64 p.2]
theorem clS_app (s : List (Int × Int)) (p : Int × Int) : clS (s ++ [p]) = clS s ++ [.int .i64 p.1, .int .i64 p.2] := by simp [clS]
theorem clS_0 : ∀ (s : List (Int × Int)) (i : Nat), i < s.length → (clS s)[i * 2]? = some (.int .i64 (gp s i).1)
  | [], i, hi => by simp at hi
  | p :: s, 0, hi => by simp [clS, gp]
  | p :: s, i + 1, hi => by
    have ih := clS_0 s i (by simpa using hi)
    unfold clS gp at *
    rw [List.flatMap_cons, List.getElem?_append_right (by simp; omega), show (i + 1) * 2 - [Value.int .i64 p.1, .int .i64 p.2].length = i * 2 from by simp; omega, ih]
    rfl
theorem clS_1 : ∀ (s : List (Int × Int)) (i : Nat), i < s.length → (clS s)[i * 2 + 1]? = some (.int .i64 (gp s i).2)
  | [], i, hi => by simp at hi
  | p :: s, 0, hi => by simp [clS, gp]
  | p :: s, i + 1, hi => by
    have ih := clS_1 s i (by simpa using hi)
    unfold clS gp at *
    rw [List.flatMap_cons, List.getElem?_append_right (by simp; omega), show (i + 1) * 2 + 1 - [Value.int .i64 p.1, .int .i64 p.2].length = i * 2 + 1 from by simp; omega, ih]
    rfl
theorem pairs_own {w : World} {base c : Nat} {a : Option Addr} {s : List (Int × Int)} (h : w.ownsRow base 76 2 (.slice a s.length c) s.length (clS s)) (hn : s.length ≤ 9223372036854775807) (hf : ∀ j, j < s.length → I64 (gp s j).1 ∧ I64 (gp s j).2) : PairsS w a s := by
  refine ⟨hn, hf, ?_⟩
  rcases h.2 with ⟨h1, h2⟩ | ⟨g2, c2, cur, h1, _⟩
  · exact ⟨0, 0, (fun hne => absurd (List.eq_nil_of_length_eq_zero h2) hne), fun i hi => by omega⟩
  · obtain ⟨rfl, rfl⟩ : a = some ⟨g2, 0, none⟩ ∧ c = c2 := by simpa using h1
    refine ⟨g2, 0, fun _ => rfl, fun i hi => ⟨?_, ?_⟩⟩
    · rw [Nat.zero_add, World.ownsRow.cellAt h (i * 2) (by omega)]; exact clS_0 s i hi
    · rw [Nat.zero_add, World.ownsRow.cellAt h (i * 2 + 1) (by omega)]; exact clS_1 s i hi

/-- The first n steps of a job, as pairs. -/
def rowP (i n : Nat) : List (Int × Int) := (List.range n).map fun k : Nat => ((i : Int), (k : Int))
/-- The steps of the first i jobs, as pairs. -/
def flI (J : List (List Stp)) : Nat → List (Int × Int)
  | 0 => []
  | i + 1 => flI J i ++ rowP i (gj J i).length
/-- The steps of the first i jobs, and the first k ones of the next. -/
def lpK (J : List (List Stp)) (i k : Nat) : List (Int × Int) := flI J i ++ rowP i k
def flP (J : List (List Stp)) : List (Int × Int) := flI J J.length
theorem rowP_len (i n : Nat) : (rowP i n).length = n := by simp [rowP]
theorem rowP_next (i n : Nat) : rowP i (n + 1) = rowP i n ++ [((i : Int), (n : Int))] := by simp [rowP, List.range_succ]
theorem lpK_zero (J : List (List Stp)) (i : Nat) : lpK J i 0 = flI J i := by simp [lpK, rowP]
theorem lpK_next (J : List (List Stp)) (i k : Nat) : lpK J i (k + 1) = lpK J i k ++ [((i : Int), (k : Int))] := by unfold lpK; rw [rowP_next, List.append_assoc]
theorem lpK_end (J : List (List Stp)) (i : Nat) : lpK J i (gj J i).length = flI J (i + 1) := rfl
theorem flI_len {s : Sh} (h : ShOk s) : ∀ i, i ≤ s.J.length → (flI s.J i).length ≤ 8 * i
  | 0, _ => by simp [flI]
  | i + 1, hi => by
    have ih := flI_len h i (by omega)
    have hj := (h.2.2.2.2 i (by omega)).1
    rw [flI, List.length_append, rowP_len]
    omega
/-- Each pair is a step. -/
theorem flI_at {J : List (List Stp)} : ∀ i, i ≤ J.length → ∀ p, p ∈ flI J i → ∃ a b : Nat, p = ((a : Int), (b : Int)) ∧ a < i ∧ b < (gj J a).length
  | 0, _, p, hp => by simp [flI] at hp
  | i + 1, hi, p, hp => by
    rw [flI, List.mem_append] at hp
    rcases hp with hp | hp
    · obtain ⟨a, b, h1, h2, h3⟩ := flI_at i (by omega) p hp
      exact ⟨a, b, h1, by omega, h3⟩
    · unfold rowP at hp
      obtain ⟨k, hk, rfl⟩ := List.mem_map.1 hp
      exact ⟨i, k, rfl, by omega, List.mem_range.1 hk⟩
theorem gp_mem {l : List (Int × Int)} {i : Nat} (h : i < l.length) : gp l i ∈ l := by
  unfold gp; rw [List.getD_eq_getElem?_getD, List.getElem?_eq_getElem h]; exact List.getElem_mem h
theorem flP_at {J : List (List Stp)} {n : Nat} (h : n < (flP J).length) : ∃ a b : Nat, gp (flP J) n = ((a : Int), (b : Int)) ∧ a < J.length ∧ b < (gj J a).length := flI_at _ (Nat.le_refl _) _ (gp_mem h)

set_option maxRecDepth 100000 in
set_option maxHeartbeats 4000000 in
theorem list_sh (s : Sh) (w : World) (hI : ShS w s) (hV : ShOk s) :
    Calls Try.prog 47 #[.agg #[.int .i64 s.O, .int .i64 s.C, .slice s.aH s.H.length s.cH, .int .i64 s.M, .slice s.aS s.S.length s.cS, .slice s.aJ s.J.length s.cJ]] w fun e w' => ∃ a c, e = .returned (.slice a (flP s.J).length c) ∧ PairsS w' a (flP s.J) ∧ Below w.heap.size w w' := by
  have h12 := hV.2.2.2.1
  have HLn : Hid (∀ i k, i < s.J.length → k ≤ (gj s.J i).length → (lpK s.J i k).length ≤ 200) := Lib.hid fun i k hi hk => by
    have := flI_len hV i (by omega)
    have := (hV.2.2.2.2 i hi).1
    unfold lpK
    rw [List.length_append, rowP_len]
    omega
  have HL8 : Hid (∀ i, i < s.J.length → (gj s.J i).length ≤ 8) := Lib.hid fun i hi => (hV.2.2.2.2 i hi).1
  have HNx := Lib.hid (lpK_next s.J)
  have HZ := Lib.hid (lpK_zero s.J)
  have HEn := Lib.hid (lpK_end s.J)
  have HRES : Hid (∀ W a c base, W.ownsRow base 76 2 (.slice a (flI s.J s.J.length).length c) (flI s.J s.J.length).length (clS (flI s.J s.J.length)) → PairsS W a (flI s.J s.J.length)) := Lib.hid fun W a c base h => pairs_own h (by have := flI_len hV _ (Nat.le_refl _); omega) (fun j hj => by
    obtain ⟨x, y, h1, h2, h3⟩ := flP_at (J := s.J) (n := j) hj
    have h8 := (hV.2.2.2.2 x h2).1
    have h1' : gp (flI s.J s.J.length) j = ((x : Int), (y : Int)) := h1
    rw [h1']
    unfold I64
    constructor
    · constructor <;> simp only <;> omega
    · constructor <;> simp only <;> omega)
  obtain ⟨hlJ, blk, off, ad, cp, hadr, hc⟩ := hI.2.2
  have HE : Hid (∀ k, k < s.J.length → w.cell? ⟨blk, off + k, none⟩ = some (.slice (ad k) (gj s.J k).length (cp k))) := Lib.hid fun k hk => (hc k hk).1
  have HLJ : Hid (0 < s.J.length → s.aJ = some ⟨blk, off, none⟩) := Lib.hid fun h => hadr (fun e => by rw [e] at h; simp at h)
  have hB := ShBox.start w s 25
  obtain ⟨n0, hi, hz0, hz1, hz2⟩ := info_parts pairInfo
  unfold flP
  clear hI hV hadr hc
  go_enter Try.func47, Try.ntmps47
  go_wp2_with fail
  obtain ⟨wo, hwo⟩ : ∃ wo, w.alloc (.cells #[.int .i64 s.O, .int .i64 s.C, .slice s.aH s.H.length s.cH, .int .i64 s.M, .slice s.aS s.S.length s.cS, .slice s.aJ s.J.length s.cJ] 25) = wo := ⟨_, rfl⟩
  rw [hwo] at hB ⊢
  clear hwo
  have HBo := Lib.hid hB
  clear hB
  go_loopw [3, 4] (fun v i wr => ∃ k : Nat, k ≤ s.J.length ∧ i = .int .i64 k ∧ (∃ a c, v = .slice a (flI s.J k).length c) ∧ Hid (wr.ownsRow wo.heap.size 76 2 v (flI s.J k).length (clS (flI s.J k))) ∧ Below wo.heap.size wo wr) (fun _ i _ => s.J.length - (intOf i).toNat)
  case atStart => exact ⟨0, Nat.zero_le _, rfl, ⟨none, 0, rfl⟩, Lib.hid ⟨rfl, .inl ⟨rfl, rfl⟩⟩, Below.refl _ _⟩
  case round =>
    obtain ⟨k, hk, rfl, ⟨ar, cr, rfl⟩, HRow, hbr⟩ := hrel
    have HB := Lib.hid (HBo.out.on hbr)
    obtain ⟨hb, p0, p1, p2, p3, p4, p5⟩ := HBo.out.on hbr
    have hbs := hbr.size
    by_cases hlt : k < s.J.length
    · have HA := Lib.hid (HLJ.out (by omega))
      have HEk := Lib.hid (HE.out k hlt)
      have h8 := HL8.out k hlt
      have n9 : (k : Int) < s.J.length := by omega
      have HLk := Lib.hid (HLn.out k)
      have HNk := Lib.hid (HNx.out k)
      have HEnk := Lib.hid (HEn.out k)
      have hz := HZ.out k
      rw [← hz] at HRow ⊢
      clear HE HLJ HL8 HRES HZ HNx HEn HLn hz
      go_wp2_with fail
      clear hb p0 p1 p2 p3 p4 p5 HB
      go_loopw [3, 5] (fun v i wr => ∃ n : Nat, n ≤ (gj s.J k).length ∧ i = .int .i64 n ∧ (∃ a c, v = .slice a (lpK s.J k n).length c) ∧ Hid (wr.ownsRow wo.heap.size 76 2 v (lpK s.J k n).length (clS (lpK s.J k n))) ∧ Below wo.heap.size wo wr) (fun _ i _ => (gj s.J k).length - (intOf i).toNat)
      case atStart => exact ⟨0, Nat.zero_le _, rfl, ⟨_, _, rfl⟩, HRow, hbr⟩
      case round =>
        clear HRow hbr hbs
        obtain ⟨n, hn, rfl, ⟨ar, cr, rfl⟩, HRow, hbr⟩ := hrel
        obtain ⟨hb, p0, p1, p2, p3, p4, p5⟩ := HBo.out.on hbr
        have hbs := hbr.size
        have c0 := cell_below HEk.out hb
        rw [HA.out] at p5
        have h200 := HLk.out n hlt hn
        by_cases hlt1 : n < (gj s.J k).length
        · have HNn := Lib.hid (HNk.out n)
          have HAP : Hid ((lpK s.J k n).length + 1 = (lpK s.J k (n + 1)).length ∧ clS (lpK s.J k n) ++ [.int .i64 k, .int .i64 n] = clS (lpK s.J k (n + 1))) := Lib.hid (by rw [HNn.out, clS_app, List.length_append]; exact ⟨rfl, rfl⟩)
          clear HNk HNn HEnk HLk HEk HA
          generalize (gj s.J k).length = l at *
          generalize ad k = al at *
          generalize cp k = cl at *
          generalize (lpK s.J k n).length = ln at *
          generalize clS (lpK s.J k n) = cs at *
          have n10 : (n : Int) < l := by omega
          have hown := Lib.hid (HRow.out.alloc (.cells #[.int .i64 k, .int .i64 n] 76))
          go_wp2_with (first | (at_builtin; go_loud (refine wpList_append_lies _ rfl _ _ 36 rfl wo.heap.size 76 n0 _ 2 16 Try.underlying36 hi hz0 hz1 hz2 rfl (by decide) (.slice ar ln cr) ln _ (by rfl) hown.out ⟨wr.heap.size, 0, none⟩ 1 1 [.int .i64 k, .int .i64 n] (by rfl) (by rfl) ?d1 ?d2 (by decide) ?d3 ?d4 ?d5 _ rfl ?_)))
          case d1 =>
            refine World.news_of_block (cs := #[.int .i64 k, .int .i64 n]) (t := 76) (fr := (0, 0)) ?_
            exact heap_alloc_new _ _
          case d2 => simp [Value.oneCell']
          case d3 => unfold maxLen; omega
          case d4 => omega
          case d5 => first | (simp; omega) | simp
          intro g6 c6 w6 hown6 hgrow6 hat6 hlt6
          have hb6 : Below wo.heap.size wo w6 := ((hbr.alloc hbs _).grown hgrow6 (by first | (simp; omega) | simp) (fun z hz => by
            rcases hown.out.2 with ⟨h, _⟩ | ⟨g2, c3, cur, h1, h2, _⟩
            · rw [h] at hz; simp [Value.ownBlock] at hz
            · rw [h1] at hz; simp [Value.ownBlock] at hz; omega))
          go_wp2_with fail
          go_roundw
          case rel => exact ⟨n + 1, by omega, by go_num, ⟨_, c6, by rw [← HAP.out.1]⟩, Lib.hid (by rw [← HAP.out.1, ← HAP.out.2]; exact hown6), hb6⟩
          case measure => simp [intOf]; omega
        · obtain rfl : n = (gj s.J k).length := by omega
          have he := HEnk.out
          rw [he] at HRow h200 ⊢
          clear HNk HEnk HLk HEk HA hlt1 he
          go_wp2_with fail
          go_roundw
          case rel => exact ⟨k + 1, by omega, by go_num, ⟨_, _, rfl⟩, HRow, hbr⟩
          case measure => simp [intOf]; omega
    · obtain rfl : k = s.J.length := by omega
      have HP := Lib.hid (HRES.out _ _ _ _ HRow.out)
      clear HE HLJ HL8 HRES HZ HNx HEn HLn hlt
      go_wp2_with fail
      go_ret
      exact ⟨_, _, rfl, HP.out, hb⟩
end Go.Proofs.Ytgphkfonjfdifaa
