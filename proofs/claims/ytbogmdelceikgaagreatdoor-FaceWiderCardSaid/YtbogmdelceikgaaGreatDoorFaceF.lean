/-
  Faces in memory; the walks of Valid and of the reference's Valid: both answer faceB. By an AI agent.
-/
import Derived.Test.YtbogmdelceikgaaGreatDoorFaceE
namespace Go.Proofs.YtbogmdelceikgaaGreatDoor
open Go.RowKit

/-- An item, as data. -/
structure It where
  (k c l o a b : Int) (t : ByteArray)
def It.ok (x : It) : Bool := itB x.k x.c x.l x.o x.a x.b x.t
/-- An item lies in seven cells. -/
def ItemAt (w : World) (blk off : Nat) (x : It) : Prop :=
  w.cell? ⟨blk, off, none⟩ = some (.int .i64 x.k) ∧ w.cell? ⟨blk, off + 1, none⟩ = some (.int .i64 x.c) ∧ w.cell? ⟨blk, off + 2, none⟩ = some (.int .i64 x.l) ∧
  w.cell? ⟨blk, off + 3, none⟩ = some (.int .i64 x.o) ∧ w.cell? ⟨blk, off + 4, none⟩ = some (.int .i64 x.a) ∧ w.cell? ⟨blk, off + 5, none⟩ = some (.int .i64 x.b) ∧ w.cell? ⟨blk, off + 6, none⟩ = some (.string x.t)
theorem block_lt {w : World} {b o : Nat} {v : Value} (h : w.cell? ⟨b, o, none⟩ = some v) : b < w.heap.size := by
  apply Nat.lt_of_not_le
  intro hle
  simp [World.cell?, Array.getElem?_eq_none hle] at h
theorem ItemAt.below {w w' : World} {blk off : Nat} {x : It} (h : ItemAt w blk off x) (hb : Below w.heap.size w w') : ItemAt w' blk off x := by
  have hl := block_lt h.1
  have hx : ∀ o, w'.cell? ⟨blk, o, none⟩ = w.cell? ⟨blk, o, none⟩ := fun o => hb.cell (p := ⟨blk, o, none⟩) hl
  unfold ItemAt
  rw [hx, hx, hx, hx, hx, hx, hx]
  exact h
/-- A slice of items: its address, its items. -/
def ItemsAt (w : World) (a : Option Addr) (its : List It) : Prop :=
  its.length ≤ 9223372036854775807 ∧ (∀ x ∈ its, x.t.size ≤ maxLen) ∧ ∃ blk off, (its ≠ [] → a = some ⟨blk, off, none⟩) ∧ ∀ i (h : i < its.length), ItemAt w blk (off + i * 7) its[i]
theorem ItemsAt.below {w w' : World} {a : Option Addr} {its : List It} (h : ItemsAt w a its) (hb : Below w.heap.size w w') : ItemsAt w' a its := by
  obtain ⟨h0, h1, blk, off, h2, h3⟩ := h
  exact ⟨h0, h1, blk, off, h2, fun i hi => (h3 i hi).below hb⟩

/-- Is a face valid. -/
def faceB (sh sz h : Int) (its : List It) : Bool := btw sh 1 6 && (btw sz 4 200 && (fv h (sh == 2) 4 && (decide (its.length ≤ 16) && its.all It.ok)))
theorem all_snoc (its : List It) (k : Nat) (h : k < its.length) (ha : (its.take k).all It.ok = true) : (its.take (k + 1)).all It.ok = its[k].ok := by
  rw [List.take_succ_eq_append_getElem h, List.all_append, ha]; simp
theorem all_take (its : List It) (k : Nat) (h : (its.take k).all It.ok = false) : its.all It.ok = false := by
  cases e : its.all It.ok
  · rfl
  · rw [List.all_eq_true] at e
    have : (its.take k).all It.ok = true := List.all_eq_true.2 fun x hx => e x (List.mem_of_mem_take hx)
    rw [this] at h; cases h

set_option maxRecDepth 100000 in
set_option maxHeartbeats 4000000 in
theorem valid_any (sh sz h : Int) (a : Option Addr) (cap : Nat) (its : List It) (w : World) (hL : LettersAt w) (hK : KindsAt w) (hI : ItemsAt w a its) :
    Calls Tryz.prog 20 #[.agg #[.int .i64 sh, .int .i64 sz, .int .i64 h, .slice a its.length cap]] w fun e w' => e = .returned (.bool (faceB sh sz h its)) ∧ Below w.heap.size w w' := by
  obtain ⟨hlen, htx, blk, off, hadr, hit⟩ := hI
  have hsz := hL.1
  by_cases h1 : btw sh 1 6 = true
  · have H1 := Lib.hid h1
    by_cases h2 : btw sz 4 200 = true
    · have H2 := Lib.hid h2
      by_cases h3 : fv h (sh == 2) 4 = true
      · have H3 := Lib.hid h3
        by_cases h4 : its.length ≤ 16
        · have e0 : faceB sh sz h its = its.all It.ok := by unfold faceB; rw [h1, h2, h3]; simp [h4]
          rw [e0]
          clear h1 h2 h3 e0
          go_enter Tryz.func20, Tryz.ntmps20
          go_wp2_with (first | (go_at_call 10; refine (between_any _ _ _ _).mono ?_; rintro e w' ⟨rfl, rfl⟩; first | rw [H1.out] | rw [H2.out]) | (go_at_call 33; refine (fieldValid_any _ _ _ _).mono ?_; rintro e w' ⟨rfl, rfl⟩; rw [H3.out]))
          go_loopw [31] (fun i wr => ∃ k : Nat, k ≤ its.length ∧ i = .int .i64 k ∧ Below w.heap.size w wr ∧ Hid ((its.take k).all It.ok = true)) (fun i wr => its.length - (intOf i).toNat)
          case atStart => exact ⟨0, Nat.zero_le _, rfl, (Below.refl _ _).alloc (Nat.le_refl _) _, Lib.hid rfl⟩
          case round =>
            obtain ⟨k, hk, rfl, hb, HA⟩ := hrel
            by_cases hlt : k < its.length
            · obtain rfl := hadr (fun h => by rw [h] at hlt; simp at hlt)
              have hit' := (hit k hlt).below hb
              have htk := htx its[k] (List.getElem_mem hlt)
              have hsn := all_snoc its k hlt HA.out
              have HM := Lib.hid htk
              have hLr := hL.below hb hsz
              have hKr := hK.below hb hsz
              have hbs := hb.size
              clear hit htx htk hadr
              have HV : Hid (∀ W, LettersAt W → KindsAt W → Calls Tryz.prog 34 #[.agg #[.int .i64 its[k].k, .int .i64 its[k].c, .int .i64 its[k].l, .int .i64 its[k].o, .int .i64 its[k].a, .int .i64 its[k].b, .string its[k].t]] W fun e w' => e = .returned (.bool its[k].ok) ∧ Below W.heap.size W w') := Lib.hid fun W h1 h2 => itemValid_any _ _ _ _ _ _ _ W h1 h2 HM.out
              generalize its[k] = x at *
              obtain ⟨i0, i1, i2, i3, i4, i5, i6⟩ := hit'
              by_cases ho : x.ok = true
              · rw [ho] at hsn
                have HS := Lib.hid hsn
                have HO := Lib.hid ho
                clear hsn ho
                go_wp2_with (first | (go_at_call 34; refine (HV.out _ (hLr.below ((Below.refl _ _).alloc (Nat.le_refl _) _) hLr.1) (hKr.below ((Below.refl _ _).alloc (Nat.le_refl _) _) hKr.1)).mono ?_; rintro e w1 ⟨rfl, hb1⟩; rw [HO.out]))
                go_roundw
                case rel => exact ⟨k + 1, by omega, by go_num, (hb.alloc hbs _).trans (hb1.mono (by simp; omega)), HS⟩
                case measure => simp [intOf]; omega
              · have ho' : x.ok = false := by simpa using ho
                rw [ho'] at hsn
                have HS := Lib.hid (all_take _ _ hsn)
                have HO := Lib.hid ho'
                clear hsn ho ho'
                go_wp2_with (first | (go_at_call 34; refine (HV.out _ (hLr.below ((Below.refl _ _).alloc (Nat.le_refl _) _) hLr.1) (hKr.below ((Below.refl _ _).alloc (Nat.le_refl _) _) hKr.1)).mono ?_; rintro e w1 ⟨rfl, hb1⟩; rw [HO.out]))
                go_ret
                rw [HS.out]
                exact ⟨rfl, (hb.alloc hbs _).trans (hb1.mono (by simp; omega))⟩
            · have e : k = its.length := by omega
              have HE : Hid (its.all It.ok = true) := Lib.hid (by rw [← HA.out, e, List.take_length])
              clear e
              go_wp2_with fail
              go_ret
              rw [HE.out]
              exact ⟨rfl, hb⟩
        · have e0 : faceB sh sz h its = false := by unfold faceB; rw [h1, h2, h3]; simp [h4]
          rw [e0]
          clear h1 h2 h3 e0
          go_enter Tryz.func20, Tryz.ntmps20
          go_wp2_with (first | (go_at_call 10; refine (between_any _ _ _ _).mono ?_; rintro e w' ⟨rfl, rfl⟩; first | rw [H1.out] | rw [H2.out]) | (go_at_call 33; refine (fieldValid_any _ _ _ _).mono ?_; rintro e w' ⟨rfl, rfl⟩; rw [H3.out]))
          go_ret
          refine ⟨rfl, ?_⟩
          go_grown
      · have h3' : fv h (sh == 2) 4 = false := by simpa using h3
        have H3 := Lib.hid h3'
        have e0 : faceB sh sz h its = false := by unfold faceB; rw [h3']; simp
        rw [e0]
        clear h1 h2 h3 h3' e0
        go_enter Tryz.func20, Tryz.ntmps20
        go_wp2_with (first | (go_at_call 10; refine (between_any _ _ _ _).mono ?_; rintro e w' ⟨rfl, rfl⟩; first | rw [H1.out] | rw [H2.out]) | (go_at_call 33; refine (fieldValid_any _ _ _ _).mono ?_; rintro e w' ⟨rfl, rfl⟩; rw [H3.out]))
        go_ret
        refine ⟨rfl, ?_⟩
        go_grown
    · have h2' : btw sz 4 200 = false := by simpa using h2
      have H2 := Lib.hid h2'
      have e0 : faceB sh sz h its = false := by unfold faceB; rw [h2']; simp
      rw [e0]
      clear h1 h2 h2' e0
      go_enter Tryz.func20, Tryz.ntmps20
      go_wp2_with (first | (go_at_call 10; refine (between_any _ _ _ _).mono ?_; rintro e w' ⟨rfl, rfl⟩; first | rw [H1.out] | rw [H2.out]))
      go_ret
      refine ⟨rfl, ?_⟩
      go_grown
  · have h1' : btw sh 1 6 = false := by simpa using h1
    have H1 := Lib.hid h1'
    have e0 : faceB sh sz h its = false := by unfold faceB; rw [h1']; simp
    rw [e0]
    clear h1 h1' e0
    go_enter Tryz.func20, Tryz.ntmps20
    go_wp2_with (first | (go_at_call 10; refine (between_any _ _ _ _).mono ?_; rintro e w' ⟨rfl, rfl⟩; rw [H1.out]))
    go_ret
    refine ⟨rfl, ?_⟩
    go_grown
end Go.Proofs.YtbogmdelceikgaaGreatDoor
