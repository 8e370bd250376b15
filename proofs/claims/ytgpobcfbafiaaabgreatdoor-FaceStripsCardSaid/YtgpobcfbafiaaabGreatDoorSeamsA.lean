/-
  Which columns of a face forbid a seam (forbB); the walk of the reference's Forbidden: it answers forbB. By an AI agent.
-/
import Derived.Test.YtgpobcfbafiaaabGreatDoorFaceG
import Derived.Handy
namespace Go.Proofs.YtgpobcfbafiaaabGreatDoor
open Go.RowKit

/-- Does the n-th byte of an item's text forbid a seam at c; does the item; does any. -/
def hitB (x : It) (c : Int) (n : Nat) : Bool := if h : n < x.t.size then (x.t[n] != 32) && (decide (x.l + 6 * x.a * n < c) && decide (c < x.l + 6 * x.a * n + 5 * x.a)) else false
def cutB (x : It) (c : Int) : Bool := (List.range x.t.size).any (hitB x c)
def forbB (its : List It) (c : Int) : Bool := its.any fun x => cutB x c
theorem any_range_snoc (p : Nat → Bool) (k : Nat) (h : (List.range k).any p = false) : (List.range (k + 1)).any p = p k := by
  rw [List.range_succ, List.any_append, h]; simp
theorem any_range_take (p : Nat → Bool) (k n : Nat) (hk : k < n) (h : p k = true) : (List.range n).any p = true :=
  List.any_eq_true.2 ⟨k, List.mem_range.2 hk, h⟩
theorem forb_snoc (its : List It) (c : Int) (k : Nat) (h : k < its.length) (ha : forbB (its.take k) c = false) : forbB (its.take (k + 1)) c = cutB its[k] c := by
  unfold forbB at *
  rw [List.take_succ_eq_append_getElem h, List.any_append, ha]; simp
theorem forb_mem (its : List It) (c : Int) (k : Nat) (h : k < its.length) (hc : cutB its[k] c = true) : forbB its c = true :=
  List.any_eq_true.2 ⟨its[k], List.getElem_mem h, hc⟩
theorem cut_empty (x : It) (c : Int) (h : x.t.size = 0) : cutB x c = false := by unfold cutB; rw [h]; rfl
theorem kText (k : Int) (h : btw k 1 6 = true) : kTexts.getD k.toNat false = decide (k = 6) := by
  obtain ⟨h1, h2⟩ := (btw_iff _ _ _).1 h
  have : k = 1 ∨ k = 2 ∨ k = 3 ∨ k = 4 ∨ k = 5 ∨ k = 6 := by omega
  rcases this with rfl | rfl | rfl | rfl | rfl | rfl <;> rfl
theorem ok_other (x : It) (h : x.ok = true) (hk : x.k ≠ 6) : x.t.size = 0 := by
  unfold It.ok itB at h
  simp only [Bool.and_eq_true] at h
  obtain ⟨⟨h1, _⟩, _, _, _, _, h6⟩ := h
  rw [kText _ h1, decide_eq_false hk] at h6
  simp only [Bool.false_eq_true, if_false, List.isEmpty_iff] at h6
  rw [ByteArray.toList_eq] at h6
  have := congrArg List.length h6
  simpa using this
theorem ok_text (x : It) (h : x.ok = true) (hk : x.k = 6) : (0 ≤ x.l ∧ x.l ≤ 200) ∧ (1 ≤ x.a ∧ x.a ≤ 200) ∧ spB x.t = true := by
  unfold It.ok itB at h
  rw [hk] at h
  simp only [Bool.and_eq_true] at h
  obtain ⟨_, h2, _, h4, _, h6⟩ := h
  exact ⟨(btw_iff _ _ _).1 h4, (btw_iff _ _ _).1 h2, h6⟩
theorem sp_size {t : ByteArray} (h : spB t = true) : 1 ≤ t.size ∧ t.size ≤ 24 := by
  unfold spB at h
  rw [Bool.and_eq_true] at h
  have := (btw_iff _ _ _).1 h.2
  omega

set_option maxRecDepth 100000 in
set_option maxHeartbeats 4000000 in
theorem forbidden_any (sh sz h : Int) (a : Option Addr) (cap : Nat) (its : List It) (c : Int) (w : World) (hI : ItemsAt w a its) (hok : its.all It.ok = true) (hn : its.length ≤ 16) :
    Calls Tryz.prog 26 #[.agg #[.int .i64 sh, .int .i64 sz, .int .i64 h, .slice a its.length cap], .int .i64 c] w fun e w' => e = .returned (.bool (forbB its c)) ∧ Below w.heap.size w w' := by
  obtain ⟨hlen, htx, blk, off, hadr, hit⟩ := hI
  go_enter Tryz.func26, Tryz.ntmps26
  go_wp2_with fail
  go_loopw [5] (fun i wr => ∃ k : Nat, k ≤ its.length ∧ i = .int .i64 k ∧ Below (w.heap.size + 1) (w.alloc (.cells #[.int .i64 sh, .int .i64 sz, .int .i64 h, .slice a its.length cap] 24)) wr ∧ Hid (forbB (its.take k) c = false)) (fun i wr => its.length - (intOf i).toNat)
  case atStart => exact ⟨0, Nat.zero_le _, rfl, Below.refl _ _, Lib.hid rfl⟩
  case round =>
    obtain ⟨k, hk, rfl, hb, HA⟩ := hrel
    have hbw : Below w.heap.size w wr := ((Below.refl _ _).alloc (Nat.le_refl _) _).trans (hb.mono (by simp))
    have hbox : wr.cell? ⟨w.heap.size, 3, none⟩ = some (.slice a its.length cap) := by rw [hb.cell (p := ⟨w.heap.size, 3, none⟩) (by simp)]; simp [go_sem]
    have hbs : w.heap.size + 1 ≤ wr.heap.size := by have := hb.size; simpa using this
    by_cases hlt : k < its.length
    · obtain rfl := hadr (fun h => by rw [h] at hlt; simp at hlt)
      have hit' := (hit k hlt).below hbw
      have htk := htx its[k] (List.getElem_mem hlt)
      have hxok : its[k].ok = true := List.all_eq_true.1 hok _ (List.getElem_mem hlt)
      have HSN : Hid (forbB (its.take (k + 1)) c = cutB its[k] c) := Lib.hid (forb_snoc its c k hlt HA.out)
      have HME : Hid (cutB its[k] c = true → forbB its c = true) := Lib.hid (forb_mem its c k hlt)
      clear hit htx hadr hok HA
      generalize its[k] = x at *
      by_cases hkd : x.k = 6
      · have hkb : (x.k != 6) = false := by simpa using hkd
        obtain ⟨hl, ha, hsp⟩ := ok_text x hxok hkd
        have hsz := sp_size hsp
        clear hxok hsp htk
        obtain ⟨i0, i1, i2, i3, i4, i5, i6⟩ := hit'
        go_wp2_with fail
        go_loop [7] (fun i => ∃ n : Nat, n ≤ x.t.size ∧ i = .int .i64 n ∧ Hid ((List.range n).any (hitB x c) = false)) (fun i => x.t.size - (intOf i).toNat)
        case atStart => exact ⟨0, Nat.zero_le _, rfl, Lib.hid rfl⟩
        case round =>
          obtain ⟨n, hnn, rfl, HB⟩ := hrel
          by_cases hlt2 : n < x.t.size
          · have hp : 0 ≤ 6 * x.a * (n : Int) ∧ 6 * x.a * (n : Int) ≤ 28800 := by
              have h1 : x.a * (n : Int) ≤ 200 * 24 := Int.mul_le_mul (by omega) (by omega) (by omega) (by omega)
              have h2 : 0 ≤ x.a * (n : Int) := Int.mul_nonneg (by omega) (by omega)
              rw [Int.mul_assoc]
              omega
            have HN : Hid ((List.range (n + 1)).any (hitB x c) = hitB x c n) := Lib.hid (any_range_snoc _ n HB.out)
            have HT : Hid (hitB x c n = true → forbB its c = true) := Lib.hid fun h => HME.out (any_range_take _ n _ hlt2 h)
            have HV : Hid (hitB x c n = ((x.t[n] != 32) && (decide (x.l + 6 * x.a * n < c) && decide (c < x.l + 6 * x.a * n + 5 * x.a)))) := Lib.hid (by unfold hitB; rw [dif_pos hlt2])
            clear HSN HME HB
            by_cases c1 : x.t[n] = 32
            · have HS : Hid ((List.range (n + 1)).any (hitB x c) = false) := Lib.hid (by rw [HN.out, HV.out, c1]; rfl)
              have c2 : ((x.t[n].toNat : Int) != 32) = false := by rw [c1]; rfl
              clear c1 HN HT HV
              go_wp2_with fail
              go_round
              case rel => exact ⟨n + 1, by omega, by go_num, HS⟩
              case measure => simp [intOf]; omega
            · have c2 : ((x.t[n].toNat : Int) != 32) = true := by
                have : x.t[n].toNat ≠ 32 := fun h => c1 (UInt8.toNat_inj.1 h)
                simp; omega
              by_cases c3 : x.l + 6 * x.a * n < c
              · by_cases c4 : c < x.l + 6 * x.a * n + 5 * x.a
                · have HS : Hid (forbB its c = true) := Lib.hid (HT.out (by rw [HV.out]; simp [c1, c3, c4]))
                  clear c1 HN HT HV
                  go_wp2_with fail
                  go_ret
                  rw [HS.out]
                  exact ⟨rfl, hbw.alloc (by omega) _⟩
                · have HS : Hid ((List.range (n + 1)).any (hitB x c) = false) := Lib.hid (by rw [HN.out, HV.out]; simp [c4])
                  clear c1 HN HT HV
                  go_wp2_with fail
                  go_round
                  case rel => exact ⟨n + 1, by omega, by go_num, HS⟩
                  case measure => simp [intOf]; omega
              · have HS : Hid ((List.range (n + 1)).any (hitB x c) = false) := Lib.hid (by rw [HN.out, HV.out]; simp [c3])
                clear c1 HN HT HV
                go_wp2_with fail
                go_round
                case rel => exact ⟨n + 1, by omega, by go_num, HS⟩
                case measure => simp [intOf]; omega
          · have e : n = x.t.size := by omega
            have HS : Hid (forbB (its.take (k + 1)) c = false) := Lib.hid (by rw [HSN.out]; unfold cutB; rw [← e]; exact HB.out)
            clear e HSN HME HB
            go_wp2_with fail
            go_roundw
            case rel => exact ⟨k + 1, by omega, by go_num, hb.alloc hbs _, HS⟩
            case measure => simp [intOf]; omega
      · have hkb : (x.k != 6) = true := by simpa using hkd
        have HS : Hid (forbB (its.take (k + 1)) c = false) := Lib.hid (by rw [HSN.out]; exact cut_empty x c (ok_other x hxok hkd))
        clear hxok HSN HME hkd
        obtain ⟨i0, i1, i2, i3, i4, i5, i6⟩ := hit'
        go_wp2_with fail
        go_roundw
        case rel => exact ⟨k + 1, by omega, by go_num, hb.alloc hbs _, HS⟩
        case measure => simp [intOf]; omega
    · have e : k = its.length := by omega
      have HE : Hid (forbB its c = false) := Lib.hid (by rw [← HA.out, e, List.take_length])
      clear e
      go_wp2_with fail
      go_ret
      rw [HE.out]
      exact ⟨rfl, hbw⟩
end Go.Proofs.YtgpobcfbafiaaabGreatDoor
