/-
  The walks of the reference's pieces and Least. By an AI agent.
-/
import Derived.Test.YtmeoekcajmgiaaaCutYd
import Derived.Test.YtmeoekcajmgiaaaCutYp
namespace Go.Proofs.Ytmeoekcajmgiaaa
set_option linter.unusedVariables false
set_option linter.unusedSimpArgs false
open Go.RowKit

def mpZ (q : List Nat) : List Int := q.map fun (x : Nat) => (x : Int)
theorem mpZ_snoc (q : List Nat) (x : Nat) : isL (mpZ q) ++ [.int .i64 (x : Int)] = isL (mpZ (q ++ [x])) := by unfold mpZ isL; simp
/-- append of one int to a row of one's own. -/
theorem app_oneY {w : World} {ops : Array Oper} {rest : List Oper} {o : Oper} {a : Act} {Q : Exit → Act → World → Prop} (hgd : o.guard = none) (s x : Operand)
    (ho : o.op = .call { callee := .builtin .append, args := #[s, x], argTypes := #[33, 33] })
    (base k : Nat) (v : Value) (xs : List Value) (hs : a.eval s = v) (h : w.ownsRow base 3 1 v k xs) (y : Int) (hk : k ≤ 10000000) (hbase : base ≤ w.heap.size)
    (B : Nat) (hx : a.eval x = .slice (some ⟨B, 0, none⟩) 1 1) (hc : w.cell? ⟨B, 0, none⟩ = some (.int .i64 y))
    (hn : ∀ g c' w', w'.ownsRow base 3 1 (.slice (some ⟨g, 0, none⟩) (k + 1) c') (k + 1) (xs ++ [.int .i64 y]) → Below base w w' → wpList Try.prog ops Q rest (a.put o.dst (.slice (some ⟨g, 0, none⟩) (k + 1) c')) w') : wpList Try.prog ops Q (o :: rest) a w := by
  obtain ⟨i0, hi, hz0, hz1, hz2⟩ := info_partsY infoIntY
  refine wpList_append_lies w hgd s x 33 ho base 3 i0 _ 1 8 undRowY hi hz0 hz1 hz2 rfl (by decide) v k _ hs h ⟨B, 0, none⟩ 1 1 [.int .i64 y] hx rfl ?_ ?_ (by decide) (by unfold maxLen; omega) (by omega) hbase _ rfl ?_
  · intro j u hj
    match j, hj with
    | 0, hj => simp at hj; subst hj; exact hc
  · intro u hu; simp at hu; subst hu; rfl
  · intro g c' w' h1 h2 h3 h4
    exact hn g c' w' h1 ((Below.refl base w).grown h2 hbase (fun k hk => (World.ownsRow.lt h k hk).1))
theorem pcF_len (l : List (Int × Int)) (len : Int) (hc : ∀ k, k < l.length → (gp l k).2 ≤ 50) : ∀ k, k ≤ l.length → (pcF l len k).length ≤ 50 * k
  | 0, _ => by simp [pcF]
  | k + 1, hk => by
    have ih := pcF_len l len hc k (by omega)
    rw [pcF, List.length_append]
    have := hc k (by omega)
    split
    · rw [List.length_replicate]; unfold cnG; omega
    · simp; omega
theorem pcD_len (l : List (Int × Int)) (L : Int) (hl : l.length ≤ 8) (hc : ∀ k, k < l.length → (gp l k).2 ≤ 50) : ∀ j, (pcD l L j).length ≤ 400 * j
  | 0 => by simp [pcD]
  | j + 1 => by
    have ih := pcD_len l L hl hc j
    have := pcF_len l (L - j) hc l.length (Nat.le_refl _)
    rw [pcD, List.length_append]; omega
theorem pcD_step (l : List (Int × Int)) (Ln m : Nat) (h0 : 0 < m) (hm : m ≤ Ln) : pcD l Ln (Ln - (m - 1)) = pcD l Ln (Ln - m) ++ pcF l m l.length := by
  rw [show Ln - (m - 1) = (Ln - m) + 1 by omega, pcD, show ((Ln : Int) - ((Ln - m : Nat) : Int)) = (m : Int) by omega]
theorem owns_lenY {w : World} {base n : Nat} {e : TypeId} {v : Value} {xs : List Value} (h : w.ownsRow base e 1 v n xs) : ∃ a c, v = .slice a n c := by
  rcases h.2 with ⟨e1, e2⟩ | ⟨g, cap, cur, e1, _⟩
  · exact ⟨none, 0, by rw [e1, e2]⟩
  · exact ⟨_, _, e1⟩
def PcsE (l : List (Int × Int)) (Ln : Nat) (w : World) (e : Ending) (w' : World) : Prop := ∃ a c, e = .returned (.slice a (pcZ l Ln).length c) ∧ IntsS w' a (pcZ l Ln) ∧ Below w.heap.size w w'
set_option maxRecDepth 100000 in
set_option maxHeartbeats 2000000 in
theorem pieces_any (Ln : Nat) (K : Int) (aa : Option Addr) (l : List (Int × Int)) (ca : Nat) (w : World) (hA : PairsS w aa l) (hok : CutOk Ln K l) :
    Calls Try.prog 20 #[.agg #[.int .i64 Ln, .int .i64 K, .slice aa l.length ca]] w (PcsE l Ln w) := by
  have hZl : (pcZ l Ln).length ≤ 400 := by
    rw [pcZ_len K l Ln (fun x hx => (hok.2.2.2 x hx).1)]
    have := szL_len hok l.length (Nat.le_refl _)
    have := hok.2.2.1
    omega
  have HZl := Lib.hid hZl
  have HDl := Lib.hid (fun j => pcD_len l Ln hok.2.2.1 (fun k hk => (hok.2.2.2 k hk).2.2) j)
  have HFl := Lib.hid (fun len k hk => pcF_len l len (fun k hk => (hok.2.2.2 k hk).2.2) k hk)
  have HZx : Hid (∀ x, x ∈ mpZ (pcD l Ln Ln) → 0 ≤ x ∧ x ≤ 2000) := Lib.hid fun x hx => by
    obtain ⟨y, hy, rfl⟩ := List.mem_map.1 hx
    have := pcD_lt l Ln Ln y hy
    have := hok.2.2.1
    omega
  obtain ⟨⟨L0, L1⟩, ⟨K0, K1⟩, l8, hask⟩ := hok
  have HAsk : Hid (∀ k, k < l.length → (1 ≤ (gp l k).1 ∧ (gp l k).1 ≤ 1000) ∧ 0 ≤ (gp l k).2 ∧ (gp l k).2 ≤ 50) := Lib.hid fun k hk => by
    obtain ⟨⟨a1, a2⟩, a3, a4⟩ := hask k hk
    omega
  obtain ⟨hlen, hbd, blk, off, hadr, hc⟩ := hA
  have HC := Lib.hid hc
  have HL : Hid (0 < l.length → aa = some ⟨blk, off, none⟩) := Lib.hid fun h => hadr (pos_ne (n := 0) h)
  have hS := InBox.start w Ln K (.slice aa l.length ca) 24
  clear hc hadr hbd hask hlen hZl
  go_enter Try.func20, Try.ntmps20
  go_wp2_with fail
  obtain ⟨wB, hwB⟩ : ∃ wB, w.alloc (.cells #[.int .i64 Ln, .int .i64 K, .slice aa l.length ca] 24) = wB := ⟨_, rfl⟩
  rw [hwB] at hS ⊢
  clear hwB
  obtain ⟨hbB, p0, p1, p2⟩ := hS
  have P2 := Lib.hid p2
  have hzB := block_lt p2
  clear p0 p1
  go_loopw [3, 4] (fun v ln wr => ∃ m : Nat, m ≤ Ln ∧ ln = .int .i64 m ∧ Hid (wr.ownsRow wB.heap.size 3 1 v (pcD l Ln (Ln - m)).length (isL (mpZ (pcD l Ln (Ln - m))))) ∧ Below wB.heap.size wB wr) (fun _ ln _ => (intOf ln).toNat)
  case atStart => exact ⟨Ln, Nat.le_refl _, rfl, Lib.hid (by rw [Nat.sub_self]; exact ⟨rfl, .inl ⟨rfl, rfl⟩⟩), Below.refl _ _⟩
  case round =>
    obtain ⟨m, hm, rfl, HO, hbm⟩ := hrel
    by_cases hm0 : 0 < m
    · have HSt := Lib.hid (pcD_step l Ln m hm0 hm)
      have hD := HDl.out (Ln - m)
      have hFm := HFl.out (m : Int)
      have HFm := Lib.hid hFm
      obtain ⟨D, hDD⟩ : ∃ D, pcD l Ln (Ln - m) = D := ⟨_, rfl⟩
      rw [hDD] at HO HSt hD
      have hD2 : D.length ≤ 400000 := by omega
      clear hDD hD hFm p2
      go_wp2_with fail
      obtain ⟨wo, rfl⟩ : ∃ wo : World, wo = wr := ⟨_, rfl⟩
      go_loopw [3, 5] (fun v i9 wr => ∃ i : Nat, i ≤ l.length ∧ i9 = .int .i64 i ∧ Hid (wr.ownsRow wB.heap.size 3 1 v (D ++ pcF l m i).length (isL (mpZ (D ++ pcF l m i)))) ∧ Below wB.heap.size wB wr) (fun _ i9 _ => l.length - (intOf i9).toNat)
      case atStart => exact ⟨0, Nat.zero_le _, rfl, Lib.hid (by rw [pcF, List.append_nil]; exact HO.out), hbm⟩
      case round =>
        clear HO
        obtain ⟨i, hi, rfl, HO, hbi⟩ := hrel
        have p2 := cell_below P2.out hbi
        have hsi := hbi.size
        by_cases hlt : i < l.length
        · obtain rfl := HL.out (by omega)
          obtain ⟨⟨a1, a2⟩, a3, a4⟩ := HAsk.out i hlt
          obtain ⟨c0, c1⟩ := HC.out i hlt
          have C0 := Lib.hid c0
          have C1 := Lib.hid c1
          have hFi := HFm.out i (by omega)
          have HCn : Hid (((cnG l i : Nat) : Int) = (gp l i).2) := Lib.hid (by unfold cnG; omega)
          have HN : Hid (D ++ pcF l m (i + 1) = (D ++ pcF l m i) ++ if (gp l i).1 = m then List.replicate (cnG l i) i else []) := Lib.hid (by rw [pcF, List.append_assoc])
          obtain ⟨D2, hD3⟩ : ∃ D2, D ++ pcF l m i = D2 := ⟨_, rfl⟩
          have hD4 : D2.length ≤ 500000 := by rw [← hD3, List.length_append]; omega
          rw [hD3] at HO HN
          clear hD3 c0 c1 hFi
          generalize (gp l i).1 = len at *
          generalize hcnt : (gp l i).2 = cnt at *
          obtain ⟨cn, hcn⟩ : ∃ cn, cnG l i = cn := ⟨_, rfl⟩
          rw [hcn] at HN HCn
          obtain rfl : ((cn : Nat) : Int) = cnt := HCn.out
          have hcn50 : cn ≤ 50 := by omega
          clear hcn hcnt HCn a3 a4
          by_cases he : len = m
          · have HN2 : Hid (D ++ pcF l m (i + 1) = D2 ++ List.replicate cn i) := Lib.hid (by rw [HN.out, if_pos he])
            have hed : (len == (m : Int)) = true := by simpa using he
            clear HN he
            go_wp2_with fail
            obtain ⟨wp, rfl⟩ : ∃ wp : World, wp = wr := ⟨_, rfl⟩
            go_loopw [3, 6] (fun v t9 wr => ∃ t : Nat, t ≤ cn ∧ t9 = .int .i64 t ∧ Hid (wr.ownsRow wB.heap.size 3 1 v (D2.length + t) (isL (mpZ (D2 ++ List.replicate t i)))) ∧ Below wB.heap.size wB wr) (fun _ t9 _ => cn - (intOf t9).toNat)
            case atStart => exact ⟨0, Nat.zero_le _, rfl, Lib.hid (by rw [List.replicate_zero, List.append_nil]; exact HO.out), hbi⟩
            case round =>
              clear HO
              obtain ⟨t, ht, rfl, HO, hbt⟩ := hrel
              have p2 := cell_below P2.out hbt
              have hbw := hbB.trans (hbt.mono hbB.size)
              have c0 := cell_below C0.out hbw
              have c1 := cell_below C1.out hbw
              have hst := hbt.size
              by_cases htc : t < cn
              · have HSn := Lib.hid (show isL (mpZ (D2 ++ List.replicate t i)) ++ [.int .i64 (i : Int)] = isL (mpZ (D2 ++ List.replicate (t + 1) i)) by rw [mpZ_snoc, List.append_assoc, ← List.replicate_succ'])
                obtain ⟨wq, rfl⟩ : ∃ wq : World, wq = wr := ⟨_, rfl⟩
                go_wp2_with (first
                  | (at_builtin; (refine app_oneY (by rfl) _ _ (by rfl) wB.heap.size (D2.length + t) _ _ (by rfl) (owns_below HO.out ((Below.refl _ _).alloc (Nat.le_refl _) _)) i (by omega) (by simp; omega) wq.heap.size (by rfl) (by simp [go_sem]) ?_); intro g8 c8 w8 hR8 hb8
                     rw [HSn.out] at hR8
                     have hb9 : Below wB.heap.size wq w8 := ((Below.refl _ _).alloc hst _).trans hb8
                     have hR9 := Lib.hid hR8
                     clear hR8 hb8))
                go_roundw
                case rel => exact ⟨t + 1, by omega, by go_num, hR9, hbt.trans hb9⟩
                case measure => simp [intOf]; omega
              · obtain rfl : t = cn := by omega
                have HO2 : Hid (wr.ownsRow wB.heap.size 3 1 _ (D ++ pcF l m (i + 1)).length (isL (mpZ (D ++ pcF l m (i + 1))))) := Lib.hid (by rw [HN2.out, List.length_append, List.length_replicate]; exact HO.out)
                clear HO
                go_wp2_with fail
                go_roundw
                case rel => exact ⟨i + 1, by omega, by go_num, HO2, hbt⟩
                case measure => simp [intOf]; omega
          · have HN2 : Hid (D ++ pcF l m (i + 1) = D2) := Lib.hid (by rw [HN.out, if_neg he, List.append_nil])
            have hed : (len == (m : Int)) = false := by simpa using he
            clear HN he
            go_wp2_with fail
            obtain ⟨wp, rfl⟩ : ∃ wp : World, wp = wr := ⟨_, rfl⟩
            go_loopw [3, 6] (fun v t9 wr => t9 = .int .i64 0 ∧ Hid (wr.ownsRow wB.heap.size 3 1 v D2.length (isL (mpZ D2))) ∧ Below wB.heap.size wB wr) (fun _ t9 _ => 0)
            case atStart => exact ⟨rfl, HO, hbi⟩
            case round =>
              clear HO
              obtain ⟨rfl, HO, hbt⟩ := hrel
              have p2 := cell_below P2.out hbt
              have hbw := hbB.trans (hbt.mono hbB.size)
              have c0 := cell_below C0.out hbw
              have c1 := cell_below C1.out hbw
              have HO2 : Hid (wr.ownsRow wB.heap.size 3 1 _ (D ++ pcF l m (i + 1)).length (isL (mpZ (D ++ pcF l m (i + 1))))) := Lib.hid (by rw [HN2.out]; exact HO.out)
              clear HO
              go_wp2_with fail
              go_roundw
              case rel => exact ⟨i + 1, by omega, by go_num, HO2, hbt⟩
              case measure => simp [intOf]; omega
        · obtain rfl : i = l.length := by omega
          have HO2 : Hid (wr.ownsRow wB.heap.size 3 1 _ (pcD l Ln (Ln - (m - 1))).length (isL (mpZ (pcD l Ln (Ln - (m - 1)))))) := Lib.hid (by rw [HSt.out]; exact HO.out)
          clear HO
          go_wp2_with fail
          go_roundw
          case rel => exact ⟨m - 1, by omega, by go_num, HO2, hbi⟩
          case measure => simp [intOf]; omega
    · obtain rfl : m = 0 := by omega
      rw [Nat.sub_zero] at HO
      obtain ⟨a9, c9, rfl⟩ := owns_lenY HO.out
      have hbw := Lib.hid (hbB.trans (hbm.mono hbB.size))
      have HI := Lib.hid (owns_ints HO.out (by simp [mpZ]) HZx.out (by have := HZl.out; unfold pcZ at this; simpa using this))
      have HLn : Hid ((pcZ l Ln).length = (pcD l Ln Ln).length) := Lib.hid (by simp [pcZ])
      clear HO hbm
      go_wp2_with fail
      go_ret
      exact ⟨a9, c9, by rw [HLn.out]; rfl, HI.out, hbw.out⟩
end Go.Proofs.Ytmeoekcajmgiaaa
