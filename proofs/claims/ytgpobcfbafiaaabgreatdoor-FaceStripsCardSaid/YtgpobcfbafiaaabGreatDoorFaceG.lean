/-
  The walks of the reference's Valid (it answers faceB), and of the law's 'long'. By an AI agent.
-/
import Derived.Test.YtgpobcfbafiaaabGreatDoorFaceF
namespace Go.Proofs.YtgpobcfbafiaaabGreatDoor
open Go.RowKit

set_option maxRecDepth 100000 in
set_option maxHeartbeats 4000000 in
theorem refValid_any (sh sz h : Int) (a : Option Addr) (cap : Nat) (its : List It) (w : World) (hI : ItemsAt w a its) :
    Calls Tryz.prog 9 #[.agg #[.int .i64 sh, .int .i64 sz, .int .i64 h, .slice a its.length cap]] w fun e w' => e = .returned (.bool (faceB sh sz h its)) ∧ Below w.heap.size w w' := by
  obtain ⟨hlen, htx, blk, off, hadr, hit⟩ := hI
  by_cases h1 : btw sh 1 6 = true
  · have H1 := Lib.hid h1
    by_cases h2 : btw sz 4 200 = true
    · have H2 := Lib.hid h2
      by_cases h4 : its.length ≤ 16
      · by_cases h3 : fv h (sh == 2) 4 = true
        · have e0 : faceB sh sz h its = its.all It.ok := by unfold faceB; rw [h1, h2, h3]; simp [h4]
          rw [e0]
          clear h1 h2 e0
          by_cases hs : sh = 2
          · subst hs
            have h3' : btw h 4 200 = true := h3
            have H3 := Lib.hid h3'
            clear h3 h3'
            go_enter Tryz.func9, Tryz.ntmps9
            go_wp2_with (first | (go_at_call 27; refine (within_any _ _ _ _).mono ?_; rintro e w' ⟨rfl, rfl⟩; first | rw [H1.out] | rw [H2.out] | rw [H3.out]))
            go_loopw [3] (fun i wr => ∃ k : Nat, k ≤ its.length ∧ i = .int .i64 k ∧ Below (w.heap.size + 1) (w.alloc (.cells #[.int .i64 2, .int .i64 sz, .int .i64 h, .slice a its.length cap] 24)) wr ∧ Hid ((its.take k).all It.ok = true)) (fun i wr => its.length - (intOf i).toNat)
            case atStart => exact ⟨0, Nat.zero_le _, rfl, Below.refl _ _, Lib.hid rfl⟩
            case round =>
              obtain ⟨k, hk, rfl, hb, HA⟩ := hrel
              have hbw : Below w.heap.size w wr := ((Below.refl _ _).alloc (Nat.le_refl _) _).trans (hb.mono (by simp))
              have hbox : wr.cell? ⟨w.heap.size, 3, none⟩ = some (.slice a its.length cap) := by rw [hb.cell (p := ⟨w.heap.size, 3, none⟩) (by simp)]; simp [go_sem]
              have hbs : w.heap.size + 1 ≤ wr.heap.size := by have := hb.size; simpa using this
              by_cases hlt : k < its.length
              · obtain rfl := hadr (fun h => by rw [h] at hlt; simp at hlt)
                have hit' := (hit k hlt).below hbw
                have htk := htx its[k] (List.getElem_mem hlt)
                have hsn := all_snoc its k hlt HA.out
                have HM := Lib.hid htk
                clear hit htx htk hadr
                have HV : Hid (∀ W, Calls Tryz.prog 28 #[.agg #[.int .i64 its[k].k, .int .i64 its[k].c, .int .i64 its[k].l, .int .i64 its[k].o, .int .i64 its[k].a, .int .i64 its[k].b, .string its[k].t]] W fun e w' => e = .returned (.bool its[k].ok) ∧ Below W.heap.size W w') := Lib.hid fun W => refItem_any _ _ _ _ _ _ _ W HM.out
                generalize its[k] = x at *
                obtain ⟨i0, i1, i2, i3, i4, i5, i6⟩ := hit'
                by_cases ho : x.ok = true
                · rw [ho] at hsn
                  have HS := Lib.hid hsn
                  have HO := Lib.hid ho
                  clear hsn ho
                  go_wp2_with (first | (go_at_call 28; refine (HV.out _).mono ?_; rintro e w1 ⟨rfl, hb1⟩; rw [HO.out]))
                  go_roundw
                  case rel => exact ⟨k + 1, by omega, by go_num, hb.trans (hb1.mono (by omega)), HS⟩
                  case measure => simp [intOf]; omega
                · have ho' : x.ok = false := by simpa using ho
                  rw [ho'] at hsn
                  have HS := Lib.hid (all_take _ _ hsn)
                  have HO := Lib.hid ho'
                  clear hsn ho ho'
                  go_wp2_with (first | (go_at_call 28; refine (HV.out _).mono ?_; rintro e w1 ⟨rfl, hb1⟩; rw [HO.out]))
                  go_ret
                  rw [HS.out]
                  exact ⟨rfl, hbw.trans (hb1.mono (by omega))⟩
              · have e : k = its.length := by omega
                have HE : Hid (its.all It.ok = true) := Lib.hid (by rw [← HA.out, e, List.take_length])
                clear e
                go_wp2_with fail
                go_ret
                rw [HE.out]
                exact ⟨rfl, hbw⟩
          · have hs' : (sh == 2) = false := by simpa using hs
            have hs2 : (sh != 2) = true := by simpa using hs
            have h3' : h = 0 := by rw [hs'] at h3; simpa [fv] using h3
            subst h3'
            clear h3 hs
            go_enter Tryz.func9, Tryz.ntmps9
            go_wp2_with (first | (go_at_call 27; refine (within_any _ _ _ _).mono ?_; rintro e w' ⟨rfl, rfl⟩; first | rw [H1.out] | rw [H2.out]))
            go_loopw [3] (fun i wr => ∃ k : Nat, k ≤ its.length ∧ i = .int .i64 k ∧ Below (w.heap.size + 1) (w.alloc (.cells #[.int .i64 sh, .int .i64 sz, .int .i64 0, .slice a its.length cap] 24)) wr ∧ Hid ((its.take k).all It.ok = true)) (fun i wr => its.length - (intOf i).toNat)
            case atStart => exact ⟨0, Nat.zero_le _, rfl, Below.refl _ _, Lib.hid rfl⟩
            case round =>
              obtain ⟨k, hk, rfl, hb, HA⟩ := hrel
              have hbw : Below w.heap.size w wr := ((Below.refl _ _).alloc (Nat.le_refl _) _).trans (hb.mono (by simp))
              have hbox : wr.cell? ⟨w.heap.size, 3, none⟩ = some (.slice a its.length cap) := by rw [hb.cell (p := ⟨w.heap.size, 3, none⟩) (by simp)]; simp [go_sem]
              have hbs : w.heap.size + 1 ≤ wr.heap.size := by have := hb.size; simpa using this
              by_cases hlt : k < its.length
              · obtain rfl := hadr (fun h => by rw [h] at hlt; simp at hlt)
                have hit' := (hit k hlt).below hbw
                have htk := htx its[k] (List.getElem_mem hlt)
                have hsn := all_snoc its k hlt HA.out
                have HM := Lib.hid htk
                clear hit htx htk hadr
                have HV : Hid (∀ W, Calls Tryz.prog 28 #[.agg #[.int .i64 its[k].k, .int .i64 its[k].c, .int .i64 its[k].l, .int .i64 its[k].o, .int .i64 its[k].a, .int .i64 its[k].b, .string its[k].t]] W fun e w' => e = .returned (.bool its[k].ok) ∧ Below W.heap.size W w') := Lib.hid fun W => refItem_any _ _ _ _ _ _ _ W HM.out
                generalize its[k] = x at *
                obtain ⟨i0, i1, i2, i3, i4, i5, i6⟩ := hit'
                by_cases ho : x.ok = true
                · rw [ho] at hsn
                  have HS := Lib.hid hsn
                  have HO := Lib.hid ho
                  clear hsn ho
                  go_wp2_with (first | (go_at_call 28; refine (HV.out _).mono ?_; rintro e w1 ⟨rfl, hb1⟩; rw [HO.out]))
                  go_roundw
                  case rel => exact ⟨k + 1, by omega, by go_num, hb.trans (hb1.mono (by omega)), HS⟩
                  case measure => simp [intOf]; omega
                · have ho' : x.ok = false := by simpa using ho
                  rw [ho'] at hsn
                  have HS := Lib.hid (all_take _ _ hsn)
                  have HO := Lib.hid ho'
                  clear hsn ho ho'
                  go_wp2_with (first | (go_at_call 28; refine (HV.out _).mono ?_; rintro e w1 ⟨rfl, hb1⟩; rw [HO.out]))
                  go_ret
                  rw [HS.out]
                  exact ⟨rfl, hbw.trans (hb1.mono (by omega))⟩
              · have e : k = its.length := by omega
                have HE : Hid (its.all It.ok = true) := Lib.hid (by rw [← HA.out, e, List.take_length])
                clear e
                go_wp2_with fail
                go_ret
                rw [HE.out]
                exact ⟨rfl, hbw⟩
        · have h3f : fv h (sh == 2) 4 = false := by simpa using h3
          have e0 : faceB sh sz h its = false := by unfold faceB; rw [h3f]; simp
          rw [e0]
          clear h1 h2 h3 e0
          by_cases hs : sh = 2
          · subst hs
            have h3' : btw h 4 200 = false := h3f
            have H3 := Lib.hid h3'
            clear h3f h3'
            go_enter Tryz.func9, Tryz.ntmps9
            go_wp2_with (first | (go_at_call 27; refine (within_any _ _ _ _).mono ?_; rintro e w' ⟨rfl, rfl⟩; first | rw [H1.out] | rw [H2.out] | rw [H3.out]))
            go_ret
            refine ⟨rfl, ?_⟩
            go_grown
          · have hs' : (sh == 2) = false := by simpa using hs
            have hs2 : (sh != 2) = true := by simpa using hs
            have h3' : (h == 0) = false := by rw [hs'] at h3f; simpa [fv] using h3f
            clear h3f hs
            go_enter Tryz.func9, Tryz.ntmps9
            go_wp2_with (first | (go_at_call 27; refine (within_any _ _ _ _).mono ?_; rintro e w' ⟨rfl, rfl⟩; first | rw [H1.out] | rw [H2.out]))
            go_ret
            refine ⟨rfl, ?_⟩
            go_grown
      · have e0 : faceB sh sz h its = false := by unfold faceB; rw [h1, h2]; simp [h4]
        rw [e0]
        clear h1 h2 e0
        go_enter Tryz.func9, Tryz.ntmps9
        go_wp2_with (first | (go_at_call 27; refine (within_any _ _ _ _).mono ?_; rintro e w' ⟨rfl, rfl⟩; first | rw [H1.out] | rw [H2.out]))
        go_ret
        refine ⟨rfl, ?_⟩
        go_grown
    · have h2' : btw sz 4 200 = false := by simpa using h2
      have H2 := Lib.hid h2'
      have e0 : faceB sh sz h its = false := by unfold faceB; rw [h2']; simp
      rw [e0]
      clear h1 h2 h2' e0
      go_enter Tryz.func9, Tryz.ntmps9
      go_wp2_with (first | (go_at_call 27; refine (within_any _ _ _ _).mono ?_; rintro e w' ⟨rfl, rfl⟩; first | rw [H1.out] | rw [H2.out]))
      go_ret
      refine ⟨rfl, ?_⟩
      go_grown
  · have h1' : btw sh 1 6 = false := by simpa using h1
    have H1 := Lib.hid h1'
    have e0 : faceB sh sz h its = false := by unfold faceB; rw [h1']; simp
    rw [e0]
    clear h1 h1' e0
    go_enter Tryz.func9, Tryz.ntmps9
    go_wp2_with (first | (go_at_call 27; refine (within_any _ _ _ _).mono ?_; rintro e w' ⟨rfl, rfl⟩; rw [H1.out]))
    go_ret
    refine ⟨rfl, ?_⟩
    go_grown

/-- Are the lists of a face too long for the statements. -/
def longB (its : List It) : Bool := decide (40 < its.length) || its.any fun x => decide (100 < x.t.size)
theorem any_snoc (its : List It) (k : Nat) (h : k < its.length) (ha : (its.take k).any (fun x => decide (100 < x.t.size)) = false) : (its.take (k + 1)).any (fun x => decide (100 < x.t.size)) = decide (100 < its[k].t.size) := by
  rw [List.take_succ_eq_append_getElem h, List.any_append, ha]; simp
theorem any_take (its : List It) (k : Nat) (h : (its.take k).any (fun x => decide (100 < x.t.size)) = true) : its.any (fun x => decide (100 < x.t.size)) = true := by
  rw [List.any_eq_true] at h ⊢
  obtain ⟨x, hx, hp⟩ := h
  exact ⟨x, List.mem_of_mem_take hx, hp⟩

set_option maxRecDepth 100000 in
set_option maxHeartbeats 4000000 in
theorem long_any (sh sz h : Int) (a : Option Addr) (cap : Nat) (its : List It) (w : World) (hI : ItemsAt w a its) :
    Calls Tryz.prog 23 #[.agg #[.int .i64 sh, .int .i64 sz, .int .i64 h, .slice a its.length cap]] w fun e w' => e = .returned (.bool (longB its)) ∧ Below w.heap.size w w' := by
  obtain ⟨hlen, htx, blk, off, hadr, hit⟩ := hI
  by_cases h40 : its.length ≤ 40
  · have e0 : longB its = its.any fun x => decide (100 < x.t.size) := by unfold longB; rw [show decide (40 < its.length) = false from by simp; omega]; rfl
    rw [e0]
    clear e0
    go_enter Tryz.func23, Tryz.ntmps23
    go_wp2_with fail
    go_loopw [3] (fun i wr => ∃ k : Nat, k ≤ its.length ∧ i = .int .i64 k ∧ wr = w.alloc (.cells #[.int .i64 sh, .int .i64 sz, .int .i64 h, .slice a its.length cap] 24) ∧ Hid ((its.take k).any (fun x => decide (100 < x.t.size)) = false)) (fun i wr => its.length - (intOf i).toNat)
    case atStart => exact ⟨0, Nat.zero_le _, rfl, by trivial, Lib.hid rfl⟩
    case round =>
      obtain ⟨k, hk, rfl, rfl, HA⟩ := hrel
      by_cases hlt : k < its.length
      · obtain rfl := hadr (fun h => by rw [h] at hlt; simp at hlt)
        have hit' := (hit k hlt).below ((Below.refl _ _).alloc (Nat.le_refl _) (.cells #[.int .i64 sh, .int .i64 sz, .int .i64 h, .slice (some ⟨blk, off, none⟩) its.length cap] 24))
        have hsn := any_snoc its k hlt HA.out
        have hxs := htx its[k] (List.getElem_mem hlt)
        unfold maxLen at hxs
        clear hit htx hadr
        generalize its[k] = x at *
        obtain ⟨i0, i1, i2, i3, i4, i5, i6⟩ := hit'
        by_cases ho : x.t.size ≤ 100
        · have HS := Lib.hid (hsn.trans (by simp; omega : decide (100 < x.t.size) = false))
          clear hsn
          go_wp2_with fail
          go_roundw
          case rel => exact ⟨k + 1, by omega, by go_num, by trivial, HS⟩
          case measure => simp [intOf]; omega
        · have HS := Lib.hid (any_take _ _ (hsn.trans (by simp; omega : decide (100 < x.t.size) = true)))
          clear hsn
          go_wp2_with fail
          go_ret
          rw [HS.out]
          exact ⟨rfl, (Below.refl _ _).alloc (Nat.le_refl _) _⟩
      · have e : k = its.length := by omega
        have HE : Hid (its.any (fun x => decide (100 < x.t.size)) = false) := Lib.hid (by rw [← HA.out, e, List.take_length])
        clear e
        go_wp2_with fail
        go_ret
        rw [HE.out]
        exact ⟨rfl, (Below.refl _ _).alloc (Nat.le_refl _) _⟩
  · have e0 : longB its = true := by unfold longB; rw [show decide (40 < its.length) = true from by simp; omega]; rfl
    rw [e0]
    clear e0
    go_enter Tryz.func23, Tryz.ntmps23
    go_wp2_with fail
    go_ret
    refine ⟨rfl, ?_⟩
    go_grown
end Go.Proofs.YtgpobcfbafiaaabGreatDoor
