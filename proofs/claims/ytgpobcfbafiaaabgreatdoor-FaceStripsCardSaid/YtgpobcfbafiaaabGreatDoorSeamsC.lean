/-
  The walks of cutting and Seams. By an AI agent.
-/
import Derived.Test.YtgpobcfbafiaaabGreatDoorSeamsB
import Derived.Test.YtgpobcfbafiaaabGreatDoorFaceM
import Derived.OwnWalk
import Derived.Lib.OthersKept
namespace Go.Proofs.YtgpobcfbafiaaabGreatDoor
open Go.RowKit

/-- A row of n booleans that the call owns. -/
def Row (w0 : Nat) (w : World) (g n : Nat) (f : Nat → Bool) : Prop := w.ownsRow w0 4 1 (.slice (some ⟨g, 0, none⟩) n n) n ((List.range n).map fun j => .bool (f j))
theorem Row.cell {w0 : Nat} {w : World} {g n : Nat} {f : Nat → Bool} (h : Row w0 w g n f) {j : Nat} (hj : j < n) : w.cell? ⟨g, j, none⟩ = some (.bool (f j)) := by
  rw [World.ownsRow.cellAt h j (by omega)]; simp [hj]
theorem Row.frozen {w0 : Nat} {w : World} {g n : Nat} {f : Nat → Bool} (h : Row w0 w g n f) (j : Nat) : w.frozen? ⟨g, j, none⟩ = false := World.ownsRow.frozenAt h j
theorem Row.congr {w0 : Nat} {w : World} {g n : Nat} {f f' : Nat → Bool} (h : Row w0 w g n f) (he : ∀ j, j < n → f j = f' j) : Row w0 w g n f' := by
  unfold Row at *
  rwa [show ((List.range n).map fun j => Value.bool (f' j)) = ((List.range n).map fun j => Value.bool (f j)) from List.map_congr_left fun j hj => by rw [he j (List.mem_range.1 hj)]]
theorem Row.store {w0 : Nat} {w : World} {g n : Nat} {f : Nat → Bool} (h : Row w0 w g n f) (j : Nat) : Row w0 (w.setCell ⟨g, j, none⟩ (.bool true)) g n (fun i => f i || decide (i = j)) := by
  have := (World.ownsRow.stored h j (.bool true)).1
  unfold Row
  rwa [show ((List.range n).map fun i => Value.bool (f i || decide (i = j))) = ((List.range n).map fun i => Value.bool (f i)).set j (.bool true) from ?_]
  apply List.ext_getElem
  · simp
  · intro i h1 h2
    rw [List.getElem_set]
    simp only [List.getElem_map, List.getElem_range]
    by_cases hij : j = i
    · subst hij; simp
    · rw [if_neg hij, decide_eq_false (fun e => hij e.symm), Bool.or_false]
theorem Row.below {w0 : Nat} {w w' : World} {g n : Nat} {f : Nat → Bool} (h : Row w0 w g n f) (hb : Below w.heap.size w w') : Row w0 w' g n f := owns_below h hb
theorem Row.alloc {w0 : Nat} {w : World} {g n : Nat} {f : Nat → Bool} (h : Row w0 w g n f) (o : Obj) : Row w0 (w.alloc o) g n f := World.ownsRow.alloc h o
theorem Row.other {w0 : Nat} {w w' : World} {g n : Nat} {f : Nat → Bool} (h : Row w0 w g n f) (he : w'.heap[g]? = w.heap[g]?) : Row w0 w' g n f := by
  refine ⟨h.1, ?_⟩
  rcases h.2 with ⟨h2, _⟩ | ⟨g', cap, cur, h1, h2, h3, h4⟩
  · cases h2
  · have e : g = g' := by injection h1 with h1 _ _; injection h1 with h1; injection h1
    subst e
    exact .inr ⟨g, cap, cur, h1, h2, by rw [he]; exact h3, h4⟩
theorem ok_any (x : It) (h : x.ok = true) : x.t.size ≤ 24 ∧ (0 < x.t.size → (0 ≤ x.l ∧ x.l ≤ 200) ∧ (1 ≤ x.a ∧ x.a ≤ 200) ∧ allLet x.t.data.toList = true) := by
  by_cases hk : x.k = 6
  · obtain ⟨h1, h2, h3⟩ := ok_text x h hk
    refine ⟨(sp_size h3).2, fun _ => ⟨h1, h2, ?_⟩⟩
    unfold spB at h3
    rw [Bool.and_eq_true] at h3
    exact h3.1
  · have := ok_other x h hk
    exact ⟨by omega, fun h => by omega⟩
theorem let_low (s : ByteArray) (k : Nat) (h : k < s.size) (ha : allLet s.data.toList = true) : (s[k]'h).toNat < 128 := by
  have h1 : isLet ((s[k]'h).toNat : Int) = true := by
    unfold allLet at ha
    exact List.all_eq_true.1 ha _ (by show s.data[k]'(by simpa using h) ∈ s.data.toList; simp)
  apply Nat.lt_of_not_le
  intro hle
  rw [isLet_high _ (by omega)] at h1
  cases h1
/-- What a step of the inner loop adds. -/
theorem forb_take (its : List It) (c : Int) (k : Nat) (h : k < its.length) : forbB (its.take (k + 1)) c = (forbB (its.take k) c || cutB its[k] c) := by
  unfold forbB
  rw [List.take_succ_eq_append_getElem h, List.any_append]
  simp
theorem any_range_or (p : Nat → Bool) (k : Nat) : (List.range (k + 1)).any p = ((List.range k).any p || p k) := by
  rw [List.range_succ, List.any_append]; simp
theorem iterPos_of {w : World} {k : Nat} {s : ByteArray} {p : Nat} (h : w.heap[k]? = some (.stringIter s p)) : w.iterPos k = p := by unfold World.iterPos; rw [h]
theorem cell_iterAt (w : World) (k : Nat) (s : ByteArray) (p b o : Nat) (h : b ≠ k) : (w.iterAt k s p).cell? ⟨b, o, none⟩ = w.cell? ⟨b, o, none⟩ := by
  unfold World.cell?
  rw [show (w.iterAt k s p).heap[(⟨b, o, none⟩ : Addr).block]? = w.heap[(⟨b, o, none⟩ : Addr).block]? from Lib.iterAt_other w k b s p h]
theorem boolInfo : (Tryz.prog.info? 4).map (fun i => (i.zero, i.size, i.bytes)) = some (some (.bool false), 1, 1) := by kernel_rfl
theorem Row.made {w0 : Nat} {w : World} {g n : Nat} (h : w.ownsRow w0 4 1 (.slice (some ⟨g, 0, none⟩) n n) n (madeCells #[Value.bool false] n).toList) : Row w0 w g n (fun _ => false) := by
  unfold Row
  rw [toList_madeCells_one] at h
  rwa [show ((List.range n).map fun _ => Value.bool false) = List.replicate n (.bool false) from by simp [List.map_const']]

set_option maxRecDepth 100000 in
set_option maxHeartbeats 4000000 in
theorem cutting_any (wd : Int) (a : Option Addr) (cap : Nat) (its : List It) (w : World) (hI : ItemsAt w a its) (hok : its.all It.ok = true) (hn : its.length ≤ 16) (w1 : 1 ≤ wd) (w2 : wd ≤ 200) :
    Calls Tryz.prog 43 #[.slice a its.length cap, .int .i64 wd] w fun e w' => ∃ g, e = .returned (.slice (some ⟨g, 0, none⟩) wd.toNat wd.toNat) ∧ Row w.heap.size w' g wd.toNat (fun c => forbB its c) ∧ Below w.heap.size w w' := by
  obtain ⟨hlen, htx, blk, off, hadr, hit⟩ := hI
  go_enter Tryz.func43, Tryz.ntmps43
  obtain ⟨i0, hi, hz0, hz1, hz2⟩ := info_parts boolInfo
  have hzt : i0.zero = some (Value.bool false) := hz0
  obtain ⟨n, rfl⟩ : ∃ n : Nat, wd = n := ⟨wd.toNat, by omega⟩
  rw [Int.toNat_natCast]
  go_wp2_with (refine wpList_make_full _ rfl _ _ 82 rfl w.heap.size 4 i0 (.bool false) 1 Tryz.underlying82 hi hz0 hz1 _ _ (n : Int) (n : Int) n rfl rfl rfl rfl ?c1 ?c2 ?c3 ?_)
  case c1 => rw [hz2]; omega
  case c2 => unfold maxLen; omega
  case c3 => simp
  intro w3 hown hgrow
  have hr0 : Row w.heap.size w3 w.heap.size n (fun _ => false) := Row.made hown
  have hB3 : Below w.heap.size w w3 := (Below.refl _ _).grown hgrow (Nat.le_refl _) (fun k h => by cases h)
  clear hown hgrow hi hz0 hz1 hz2 hzt
  go_wp2_with fail
  go_loopw [16] (fun i wr => ∃ k : Nat, k ≤ its.length ∧ i = .int .i64 k ∧ Row w.heap.size wr w.heap.size n (fun c => forbB (its.take k) c) ∧ w.heap.size < wr.heap.size ∧ Below w.heap.size w wr) (fun i _ => its.length - (intOf i).toNat)
  case atStart => exact ⟨0, Nat.zero_le _, rfl, hr0, by have := (World.ownsRow.cellAt hr0 0 (by omega)); rw [List.getElem?_eq_getElem (by simp; omega)] at this; exact block_lt this, hB3⟩
  case round =>
    obtain ⟨k, hk, rfl, hr, hsz, hb⟩ := hrel
    by_cases hlt : k < its.length
    · obtain rfl := hadr (fun h => by rw [h] at hlt; simp at hlt)
      have hit' := (hit k hlt).below hb
      obtain ⟨hts, htp⟩ := ok_any its[k] (List.all_eq_true.1 hok _ (List.getElem_mem hlt))
      have HTK : Hid (∀ c, forbB (its.take (k + 1)) c = (forbB (its.take k) c || cutB its[k] c)) := Lib.hid fun c => forb_take its c k hlt
      clear hit htx hadr hok
      generalize its[k] = x at *
      obtain ⟨i0, i1, i2, i3, i4, i5, i6⟩ := hit'
      have HR := Lib.hid hr
      clear hr hr0
      go_wp2_with fail
      have HF : Hid (∀ p c, (List.range (p + 1)).any (hitB x c) = ((List.range p).any (hitB x c) || hitB x c p)) := Lib.hid fun p c => any_range_or _ p
      obtain ⟨wo, rfl⟩ : ∃ wo : World, wo = wr := ⟨_, rfl⟩
      go_loopw [8] (fun _ wr => ∃ pos : Nat, pos ≤ x.t.size ∧ wr.heap[wo.heap.size + 1]? = some (.stringIter x.t pos) ∧ wr.cell? ⟨wo.heap.size, 2, none⟩ = some (.int .i64 x.l) ∧ wr.cell? ⟨wo.heap.size, 4, none⟩ = some (.int .i64 x.a) ∧ Below w.heap.size w wr ∧ Hid (Row w.heap.size wr w.heap.size n (fun c => forbB (its.take k) c || (List.range pos).any (hitB x c)))) (fun _ wr => x.t.size - wr.iterPos (wo.heap.size + 1))
      case atStart =>
        refine ⟨0, Nat.zero_le _, ?_, by simp [go_sem, World.iter], by simp [go_sem, World.iter], (hb.alloc (by omega) _).alloc (by simp; omega) _, Lib.hid (Row.congr ((HR.out.alloc _).alloc _) fun j _ => by simp)⟩
        have := World.iter_heap (wo.alloc (.cells #[.int .i64 x.k, .int .i64 x.c, .int .i64 x.l, .int .i64 x.o, .int .i64 x.a, .int .i64 x.b, .string x.t] 49)) x.t 0
        rwa [show (wo.alloc (.cells #[.int .i64 x.k, .int .i64 x.c, .int .i64 x.l, .int .i64 x.o, .int .i64 x.a, .int .i64 x.b, .string x.t] 49)).heap.size = wo.heap.size + 1 from by simp] at this
      case round =>
        obtain ⟨pos, hpos, hit, c2, c4, hbr, HRR⟩ := hrel
        by_cases hp : pos < x.t.size
        · obtain ⟨hl, ha, hal⟩ := htp (by omega)
          have hlow := let_low x.t pos hp hal
          have hnx : ∀ ty, (Instr.next (.pointer (some ⟨wo.heap.size + 1, 0, none⟩)) true ty).run Tryz.prog wr = _ := fun ty => Lib.run_next_ascii_at wr _ x.t pos ty hit hp hlow
          have d0 := Lib.iterAt_heap wr (wo.heap.size + 1) x.t pos (pos + 1) hit
          have d2 := (cell_iterAt wr (wo.heap.size + 1) x.t (pos + 1) wo.heap.size 2 (by omega)).trans c2
          have d4 := (cell_iterAt wr (wo.heap.size + 1) x.t (pos + 1) wo.heap.size 4 (by omega)).trans c4
          have db := Lib.below_iterAt hbr (show w.heap.size ≤ wo.heap.size + 1 by omega) x.t (pos + 1)
          have dr := Lib.hid (HRR.out.other (Lib.iterAt_other wr (wo.heap.size + 1) w.heap.size x.t (pos + 1) (by omega)))
          have hlt2 : wo.heap.size + 1 < wr.heap.size := (Array.getElem?_eq_some_iff.1 hit).1
          have hsi := Lib.iterAt_size wr (wo.heap.size + 1) x.t (pos + 1)
          have HIP := Lib.hid (iterPos_of hit)
          clear c2 c4 hbr HRR hit hal
          generalize wr.iterAt (wo.heap.size + 1) x.t (pos + 1) = wi at *
          have HV : Hid (∀ c, hitB x c pos = ((x.t[pos] != 32) && (decide (x.l + 6 * x.a * pos < c) && decide (c < x.l + 6 * x.a * pos + 5 * x.a)))) := Lib.hid fun c => by unfold hitB; rw [dif_pos hp]
          by_cases s1 : x.t[pos] = 32
          · have s2 : ((x.t[pos].toNat : Int) == 32) = true := by rw [s1]; rfl
            have HS : Hid (Row w.heap.size wi w.heap.size n (fun c => forbB (its.take k) c || (List.range (pos + 1)).any (hitB x c))) := Lib.hid (dr.out.congr fun j _ => by rw [HF.out, HV.out, s1]; simp)
            clear s1 HV dr HR
            go_wp2_with fail
            go_roundw
            case rel => exact ⟨pos + 1, by omega, d0, d2, d4, db, HS⟩
            case measure => simp only [iterPos_of d0, HIP.out]; omega
          · have s2 : ((x.t[pos].toNat : Int) == 32) = false := by
              have : x.t[pos].toNat ≠ 32 := fun h => s1 (UInt8.toNat_inj.1 h)
              simp; omega
            have hp : 0 ≤ 6 * x.a * (pos : Int) ∧ 6 * x.a * (pos : Int) ≤ 28800 := by
              have h1 : x.a * (pos : Int) ≤ 200 * 24 := Int.mul_le_mul (by omega) (by omega) (by omega) (by omega)
              have h2 : 0 ≤ x.a * (pos : Int) := Int.mul_nonneg (by omega) (by omega)
              rw [Int.mul_assoc]
              omega
            obtain ⟨L, hL⟩ : ∃ L : Nat, x.l + 6 * x.a * (pos : Int) = L := ⟨(x.l + 6 * x.a * (pos : Int)).toNat, by omega⟩
            have HD := Lib.hid dr.out
            have HS1 := Lib.hid s1
            clear s1 HR dr
            go_wp2_with fail
            obtain ⟨wq, rfl⟩ : ∃ wq : World, wq = wr := ⟨_, rfl⟩
            clear hnx
            go_loopw [11] (fun i wr => ∃ c : Nat, i = .int .i64 c ∧ L < c ∧ (c : Int) ≤ L + 5 * x.a ∧ wr.heap[wo.heap.size + 1]? = some (.stringIter x.t (pos + 1)) ∧ wr.cell? ⟨wo.heap.size, 2, none⟩ = some (.int .i64 x.l) ∧ wr.cell? ⟨wo.heap.size, 4, none⟩ = some (.int .i64 x.a) ∧ Below w.heap.size w wr ∧ Hid (Row w.heap.size wr w.heap.size n (fun j => (forbB (its.take k) j || (List.range pos).any (hitB x j)) || (decide (L < j) && decide (j < c))))) (fun i _ => ((L : Int) + 5 * x.a - intOf i).toNat)
            case atStart => exact ⟨L + 1, by go_num, by omega, by omega, d0, d2, d4, db, Lib.hid (HD.out.congr fun j _ => by rw [show (decide (L < j) && decide (j < L + 1)) = false from by simp; omega, Bool.or_false])⟩
            case round =>
              obtain ⟨c, rfl, c0, c1, e0, e2, e4, eb, HE⟩ := hrel
              by_cases hlt3 : (c : Int) < L + 5 * x.a ∧ (c : Int) < n
              · obtain ⟨hlt4, hlt5⟩ := hlt3
                have hcell := HE.out.cell (show c < n by omega)
                have hfz := HE.out.frozen c
                have f0 : (wr.setCell ⟨w.heap.size, c, none⟩ (.bool true)).heap[wo.heap.size + 1]? = some (.stringIter x.t (pos + 1)) := (Below.heap_setCell wr ⟨w.heap.size, c, none⟩ _ _ (by show wo.heap.size + 1 ≠ w.heap.size; omega)).trans e0
                have HN : Hid (Row w.heap.size (wr.setCell ⟨w.heap.size, c, none⟩ (.bool true)) w.heap.size n (fun j => (forbB (its.take k) j || (List.range pos).any (hitB x j)) || (decide (L < j) && decide (j < c + 1)))) := Lib.hid ((HE.out.store c).congr fun j hj => by
                  rw [Bool.or_assoc]
                  congr 1
                  rw [Bool.eq_iff_iff]
                  simp
                  omega)
                have F0 := Lib.hid f0
                clear f0 HV HF HD
                go_wp2_with fail
                go_roundw
                case rel => exact ⟨c + 1, by go_num, by omega, by omega, F0.out, by simp [go_sem, e2], by simp [go_sem, e4], eb.setCell (Nat.le_refl _) _, HN⟩
                case measure => simp [intOf]; omega
              · have HS : Hid (Row w.heap.size wr w.heap.size n (fun c => forbB (its.take k) c || (List.range (pos + 1)).any (hitB x c))) := Lib.hid (HE.out.congr fun j hj => by
                  rw [HF.out, HV.out, hL, Bool.or_assoc]
                  congr 2
                  have : (x.t[pos] != 32) = true := by simpa using HS1.out
                  rw [this, Bool.true_and]
                  rw [Bool.eq_iff_iff]
                  simp
                  omega)
                clear HV HF HD HE
                go_wp2_with fail
                go_roundw
                case rel => exact ⟨pos + 1, by omega, e0, e2, e4, eb, HS⟩
                case measure => simp only [iterPos_of e0, HIP.out]; omega
        · have hnx : ∀ ty, (Instr.next (.pointer (some ⟨wo.heap.size + 1, 0, none⟩)) true ty).run Tryz.prog wr = _ := fun ty => Lib.run_next_end_at wr _ x.t pos ty hit hp
          have e : pos = x.t.size := by omega
          have HS : Hid (Row w.heap.size wr w.heap.size n (fun c => forbB (its.take (k + 1)) c)) := Lib.hid (HRR.out.congr fun j _ => by rw [HTK.out]; unfold cutB; rw [e])
          have hsz2 : w.heap.size < wr.heap.size := by have := (Array.getElem?_eq_some_iff.1 hit).1; omega
          clear e HR HRR HTK HF htp
          go_wp2_with fail
          go_roundw
          case rel => exact ⟨k + 1, by omega, by go_num, HS.out, hsz2, hbr⟩
          case measure => simp [intOf]; omega
    · have e : k = its.length := by omega
      subst e
      rw [List.take_length] at hr
      have HR := Lib.hid hr
      clear hr hr0
      go_wp2_with fail
      go_ret
      exact ⟨_, rfl, HR.out, hb⟩
end Go.Proofs.YtgpobcfbafiaaabGreatDoor
