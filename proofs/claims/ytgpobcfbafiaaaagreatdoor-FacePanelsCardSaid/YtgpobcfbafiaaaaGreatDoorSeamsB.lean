/-
  The walk of the reference's Seams. By an AI agent.
-/
import Derived.Test.YtgpobcfbafiaaaaGreatDoorSeamsA
import Derived.Test.YtgpobcfbafiaaaaGreatDoorExt
import Derived.Laws.OwnMore
import Derived.Laws.AppendOwnNone
namespace Go.Proofs.YtgpobcfbafiaaaaGreatDoor
open Go.RowKit

/-- From a column `at + k` down to the first that forbids no seam; `at` if there is none. -/
def down (fb : Int → Bool) (a : Int) : Nat → Int
  | 0 => a
  | k + 1 => if fb (a + (k + 1 : Nat)) then down fb a k else a + (k + 1 : Nat)
theorem down_bd (fb : Int → Bool) (a : Int) : ∀ k : Nat, a ≤ down fb a k ∧ down fb a k ≤ a + k
  | 0 => by unfold down; omega
  | k + 1 => by
    unfold down
    have := down_bd fb a k
    split <;> omega
/-- The seams from a column on; none where a letter is too wide. -/
def seamsGo (fb : Int → Bool) (w wd : Int) : Nat → Int → List Int → Option (List Int)
  | 0, _, _ => none
  | f + 1, a, acc => if w - a > wd then (if down fb a wd.toNat = a then none else seamsGo fb w wd f (down fb a wd.toNat) (acc ++ [down fb a wd.toNat])) else some acc
def seamsOf (fb : Int → Bool) (w wd : Int) : Option (List Int) := seamsGo fb w wd (w.toNat + 1) 0 []

theorem down_zero (fb : Int → Bool) (a : Int) : down fb a (a - a).toNat = a := by rw [Int.sub_self]; rfl
theorem down_hit (fb : Int → Bool) (a c : Int) (h : a < c) (hf : fb c = true) : down fb a (c - a).toNat = down fb a (c - 1 - a).toNat := by
  obtain ⟨k, hk⟩ : ∃ k : Nat, (c - a).toNat = k + 1 := ⟨(c - a).toNat - 1, by omega⟩
  have h2 : (c - 1 - a).toNat = k := by omega
  have e : a + ((k + 1 : Nat) : Int) = c := by omega
  rw [hk, h2]
  show (if fb (a + ((k + 1 : Nat) : Int)) then down fb a k else a + ((k + 1 : Nat) : Int)) = _
  rw [e, if_pos hf]
theorem down_free (fb : Int → Bool) (a c : Int) (h : a < c) (hf : fb c = false) : down fb a (c - a).toNat = c := by
  obtain ⟨k, hk⟩ : ∃ k : Nat, (c - a).toNat = k + 1 := ⟨(c - a).toNat - 1, by omega⟩
  have e : a + ((k + 1 : Nat) : Int) = c := by omega
  rw [hk]
  show (if fb (a + ((k + 1 : Nat) : Int)) then down fb a k else a + ((k + 1 : Nat) : Int)) = _
  rw [e, hf]
  rfl
theorem go_end (fb : Int → Bool) (w wd a : Int) (f : Nat) (acc : List Int) (h : ¬ w - a > wd) : seamsGo fb w wd (f + 1) a acc = some acc := by
  unfold seamsGo
  rw [if_neg h]
theorem go_none (fb : Int → Bool) (w wd a : Int) (f : Nat) (acc : List Int) (h : w - a > wd) (hd : down fb a wd.toNat = a) : seamsGo fb w wd (f + 1) a acc = none := by
  unfold seamsGo
  rw [if_pos h, if_pos hd]
theorem go_next (fb : Int → Bool) (w wd a c : Int) (f : Nat) (acc : List Int) (h : w - a > wd) (hd : down fb a wd.toNat = c) (hc : c ≠ a) : seamsGo fb w wd (f + 1) a acc = seamsGo fb w wd f c (acc ++ [c]) := by
  rw [seamsGo, if_pos h, hd, if_neg hc]
theorem owns_below {w w' : World} {base : Nat} {e : TypeId} {size : Nat} {v : Value} {n : Nat} {xs : List Value} (h : w.ownsRow base e size v n xs) (hb : Below w.heap.size w w') : w'.ownsRow base e size v n xs := by
  refine ⟨h.1, ?_⟩
  rcases h.2 with h2 | ⟨g, cap, cur, h1, h2, h3, h4⟩
  · exact .inl h2
  · have hg : g < w.heap.size := by
      apply Nat.lt_of_not_le
      intro hle
      rw [Array.getElem?_eq_none hle] at h3
      cases h3
    exact .inr ⟨g, cap, cur, h1, h2, by rw [hb.block g hg]; exact h3, h4⟩
theorem owns_base {w : World} {base b : Nat} {e : TypeId} {size : Nat} {v : Value} {n : Nat} {xs : List Value} (h : w.ownsRow base e size v n xs) (hb : b ≤ base) : w.ownsRow b e size v n xs := by
  refine ⟨h.1, ?_⟩
  rcases h.2 with h2 | ⟨g, cap, cur, h1, h2, h3, h4⟩
  · exact .inl h2
  · exact .inr ⟨g, cap, cur, h1, Nat.le_trans hb h2, h3, h4⟩
theorem owns_block {w : World} {base : Nat} {e : TypeId} {size : Nat} {v : Value} {n : Nat} {xs : List Value} (h : w.ownsRow base e size v n xs) : ∀ k, v.ownBlock = some k → base ≤ k := by
  intro k hk
  rcases h.2 with ⟨h2, _⟩ | ⟨g, cap, cur, h1, h2, _⟩
  · subst h2; simp [Value.ownBlock] at hk
  · subst h1; simp [Value.ownBlock] at hk; omega
theorem intInfo : (Tryz.prog.info? 3).map (fun i => (i.zero, i.size, i.bytes)) = some (some (.int .i64 0), 1, 8) := by kernel_rfl

/-- What both Seams answer. -/
def SeamsEnd (w : World) (o : Option (List Int)) (e : Ending) (w' : World) : Prop :=
  Below w.heap.size w w' ∧ match o with
    | none => e = .returned (.tuple #[.slice none 0 0, .int .i64 11])
    | some l => ∃ v, e = .returned (.tuple #[v, .int .i64 0]) ∧ w'.ownsRow w.heap.size 3 1 v l.length (l.map (Value.int .i64))

set_option maxRecDepth 100000 in
set_option maxHeartbeats 4000000 in
theorem refSeams_any (sh sz h wd : Int) (a : Option Addr) (cap : Nat) (its : List It) (w : World) (hI : ItemsAt w a its) (hok : faceB sh sz h its = true) (hwd : btw wd 1 200 = true) :
    Calls Tryz.prog 51 #[.agg #[.int .i64 sh, .int .i64 sz, .int .i64 h, .slice a its.length cap], .int .i64 wd] w (SeamsEnd w (seamsOf (forbB its) sz wd)) := by
  have hA : its.all It.ok = true := by unfold faceB at hok; simp only [Bool.and_eq_true] at hok; exact hok.2.2.2.2
  have hN : its.length ≤ 16 := by unfold faceB at hok; simp only [Bool.and_eq_true, decide_eq_true_eq] at hok; exact hok.2.2.2.1
  obtain ⟨h0, h1, s0, s1, _⟩ := faceB_bd hok
  have HX : Hid (∀ W, Calls Tryz.prog 20 #[.agg #[.int .i64 sh, .int .i64 sz, .int .i64 h, .slice a its.length cap]] W fun e w' => e = .returned (.tuple #[.int .i64 sz, .int .i64 (extH sh sz h)]) ∧ Below W.heap.size W w') := Lib.hid fun W => refExtent_any sh sz h _ W h0 h1 (by omega) (by omega)
  have HF : Hid (∀ W c, Below w.heap.size w W → Calls Tryz.prog 88 #[.agg #[.int .i64 sh, .int .i64 sz, .int .i64 h, .slice a its.length cap], .int .i64 c] W fun e w' => e = .returned (.bool (forbB its c)) ∧ Below W.heap.size W w') := Lib.hid fun W c hb => forbidden_any sh sz h a cap its c W (hI.below hb) hA hN
  obtain ⟨w1, w2⟩ := (btw_iff _ _ _).1 hwd
  have HW := Lib.hid hwd
  clear hwd hI hok hA hN h0 h1
  generalize extH sh sz h = eh at *
  generalize forbB its = fb at *
  generalize its.length = len at *
  obtain ⟨i0, hi, hz0, hz1, hz2⟩ := info_parts intInfo
  go_enter Tryz.func51, Tryz.ntmps51
  go_wp2_with (first | (go_at_call 53; refine (within_any _ _ _ _).mono ?_; rintro e w' ⟨rfl, rfl⟩; rw [HW.out]))
  refine (HX.out _).mono ?_
  rintro e w3 ⟨rfl, hb3⟩
  have hs3 : w.heap.size + 1 ≤ w3.heap.size := by have := hb3.size; simpa using this
  have hB3 : Below w.heap.size w w3 := ((Below.refl _ _).alloc (Nat.le_refl _) _).trans (hb3.mono (by simp))
  have p0 := hb3.cell (p := ⟨w.heap.size, 0, none⟩) (by simp)
  have p1 := hb3.cell (p := ⟨w.heap.size, 1, none⟩) (by simp)
  have p2 := hb3.cell (p := ⟨w.heap.size, 2, none⟩) (by simp)
  have p3 := hb3.cell (p := ⟨w.heap.size, 3, none⟩) (by simp)
  simp [go_sem] at p0 p1 p2 p3
  go_wp2_with fail
  go_loopw [8, 9] (fun v i wr => ∃ (at0 : Int) (acc : List Int) (fuel : Nat), i = .int .i64 at0 ∧ 0 ≤ at0 ∧ at0 ≤ sz ∧ (acc.length : Int) ≤ at0 ∧ sz < at0 + fuel ∧ wr.ownsRow (w.heap.size + 1) 3 1 v acc.length (acc.map (Value.int .i64)) ∧ Below (w.heap.size + 1) w3 wr ∧ Hid (seamsGo fb sz wd fuel at0 acc = seamsOf fb sz wd)) (fun _ i _ => (sz - intOf i).toNat)
  case atStart => exact ⟨0, [], sz.toNat + 1, rfl, by omega, by omega, by simp, by omega, World.ownsRow_nil _ _ _ _, Below.refl _ _, Lib.hid rfl⟩
  case round =>
    obtain ⟨at0, acc, fuel, rfl, a0, a1, a2, a3, hown, hb, HG⟩ := hrel
    obtain ⟨fuel, rfl⟩ : ∃ f', fuel = f' + 1 := ⟨fuel - 1, by omega⟩
    have hbs := hb.size
    have hBw : Below w.heap.size w wr := hB3.trans (hb.mono (by omega))
    have q0 : wr.cell? ⟨w.heap.size, 0, none⟩ = some (.int .i64 sh) := (hb.cell (p := ⟨w.heap.size, 0, none⟩) (by show w.heap.size < w.heap.size + 1; omega)).trans p0
    have q1 : wr.cell? ⟨w.heap.size, 1, none⟩ = some (.int .i64 sz) := (hb.cell (p := ⟨w.heap.size, 1, none⟩) (by show w.heap.size < w.heap.size + 1; omega)).trans p1
    have q2 : wr.cell? ⟨w.heap.size, 2, none⟩ = some (.int .i64 h) := (hb.cell (p := ⟨w.heap.size, 2, none⟩) (by show w.heap.size < w.heap.size + 1; omega)).trans p2
    have q3 : wr.cell? ⟨w.heap.size, 3, none⟩ = some (.slice a len cap) := (hb.cell (p := ⟨w.heap.size, 3, none⟩) (by show w.heap.size < w.heap.size + 1; omega)).trans p3
    have HP3 : Hid (w3.cell? ⟨w.heap.size, 0, none⟩ = some (.int .i64 sh) ∧ w3.cell? ⟨w.heap.size, 1, none⟩ = some (.int .i64 sz) ∧ w3.cell? ⟨w.heap.size, 2, none⟩ = some (.int .i64 h) ∧ w3.cell? ⟨w.heap.size, 3, none⟩ = some (.slice a len cap)) := Lib.hid ⟨p0, p1, p2, p3⟩
    clear p0 p1 p2 p3
    by_cases hgo : sz - at0 > wd
    · have HN : Hid (∀ c, down fb at0 wd.toNat = c → c ≠ at0 → seamsGo fb sz wd fuel c (acc ++ [c]) = seamsOf fb sz wd) := Lib.hid fun c hd hc => (go_next fb sz wd at0 c fuel acc hgo hd hc).symm.trans HG.out
      have HO : Hid (down fb at0 wd.toNat = at0 → seamsOf fb sz wd = none) := Lib.hid fun hd => HG.out.symm.trans (go_none fb sz wd at0 fuel acc hgo hd)
      clear HG
      go_wp2_with fail
      obtain ⟨wo, rfl⟩ : ∃ wo : World, wo = wr := ⟨_, rfl⟩
      go_loopw [10] (fun i wr => ∃ c : Int, i = .int .i64 c ∧ at0 ≤ c ∧ c ≤ at0 + wd ∧ Below wo.heap.size wo wr ∧ Hid (down fb at0 (c - at0).toNat = down fb at0 wd.toNat)) (fun i _ => (intOf i - at0).toNat)
      case atStart => exact ⟨at0 + wd, rfl, by omega, by omega, Below.refl _ _, Lib.hid (by rw [show at0 + wd - at0 = wd from by omega])⟩
      case round =>
        obtain ⟨c, rfl, c0, c1, hbi, HD⟩ := hrel
        have his := hbi.size
        have hBi : Below w.heap.size w wr := hBw.trans (hbi.mono hBw.size)
        have r0 : wr.cell? ⟨w.heap.size, 0, none⟩ = some (.int .i64 sh) := (hbi.cell (p := ⟨w.heap.size, 0, none⟩) (by show w.heap.size < wo.heap.size; omega)).trans q0
        have r1 : wr.cell? ⟨w.heap.size, 1, none⟩ = some (.int .i64 sz) := (hbi.cell (p := ⟨w.heap.size, 1, none⟩) (by show w.heap.size < wo.heap.size; omega)).trans q1
        have r2 : wr.cell? ⟨w.heap.size, 2, none⟩ = some (.int .i64 h) := (hbi.cell (p := ⟨w.heap.size, 2, none⟩) (by show w.heap.size < wo.heap.size; omega)).trans q2
        have r3 : wr.cell? ⟨w.heap.size, 3, none⟩ = some (.slice a len cap) := (hbi.cell (p := ⟨w.heap.size, 3, none⟩) (by show w.heap.size < wo.heap.size; omega)).trans q3
        clear q0 q1 q2 q3
        by_cases hc : c = at0
        · subst hc
          have HE : Hid (seamsOf fb sz wd = none) := Lib.hid (HO.out (by rw [← HD.out]; exact down_zero fb c))
          clear HD HN HO HP3
          go_wp2_with fail
          go_returns
          unfold SeamsEnd
          rw [HE.out]
          exact ⟨hBi, rfl⟩
        · by_cases hf : fb c = true
          · have HD2 : Hid (down fb at0 (c - 1 - at0).toNat = down fb at0 wd.toNat) := Lib.hid ((down_hit fb at0 c (by omega) hf).symm.trans HD.out)
            have Hf := Lib.hid hf
            clear HD HN HO HP3 hf
            go_wp2_with (go_at_call 88; refine (HF.out _ _ hBi).mono ?_; rintro e w5 ⟨rfl, hb5⟩; rw [Hf.out])
            go_roundw
            case rel => exact ⟨c - 1, by go_num, by omega, by omega, hbi.trans (hb5.mono his), HD2⟩
            case measure => simp [intOf]; omega
          · have hf' : fb c = false := by simpa using hf
            have HC : Hid (down fb at0 wd.toNat = c) := Lib.hid (HD.out.symm.trans (down_free fb at0 c (by omega) hf'))
            have Hf := Lib.hid hf'
            have HS : Hid (seamsGo fb sz wd fuel c (acc ++ [c]) = seamsOf fb sz wd) := Lib.hid (HN.out c HC.out hc)
            clear HD HN HO hf hf' HC
            go_wp2_with (first | (go_at_call 88; refine (HF.out _ _ hBi).mono ?_; rintro e w5 ⟨rfl, hb5⟩; rw [Hf.out]) | (at_builtin; go_loud (refine wpList_append_own _ rfl _ _ 41 rfl (w.heap.size + 1) 3 i0 (.int .i64 0) 1 8 Tryz.underlying41 hi hz0 hz1 hz2 rfl (by decide) _ _ _ rfl ((owns_below (owns_below hown hbi) (by assumption)).alloc _) ⟨_, 0, none⟩ 1 1 [.int .i64 c] rfl rfl ?c1 ?c2 ?c3 ?c4 ?c5 ?_)))
            case c1 =>
              intro j u hj
              match j, hj with
              | 0, hj => simp at hj; subst hj; simp [Addr.add]
            case c2 => intro u hu; simp at hu; subst hu; rfl
            case c3 => unfold maxLen; omega
            case c4 => omega
            case c5 => have := hb5.size; simp; omega
            intro v' w6 hown' hgrow _
            have hB6 : Below (w.heap.size + 1) w3 w6 := (((hb.trans (hbi.mono (by omega))).trans ((by assumption : Below wr.heap.size wr _).mono (by omega))).alloc (by have := (by assumption : Below wr.heap.size wr _).size; omega) _).grown hgrow (by have := (by assumption : Below wr.heap.size wr _).size; simp; omega) (owns_block hown)
            have hown6 : w6.ownsRow (w.heap.size + 1) 3 1 v' (acc ++ [c]).length ((acc ++ [c]).map (Value.int .i64)) := by simpa using hown'
            have hlen6 : ((acc ++ [c]).length : Int) ≤ c := by simp; omega
            clear hown' hgrow hown
            go_wp2_with fail
            go_roundw
            case rel => exact ⟨c, acc ++ [c], fuel, rfl, by omega, by omega, hlen6, by omega, hown6, hB6, HS⟩
            case measure => simp [intOf]; omega
    · have HE : Hid (seamsOf fb sz wd = some acc) := Lib.hid (HG.out.symm.trans (go_end fb sz wd at0 fuel acc hgo))
      clear HG HP3
      go_wp2_with fail
      go_returns
      unfold SeamsEnd
      rw [HE.out]
      exact ⟨hBw, _, rfl, owns_base hown (by omega)⟩
end Go.Proofs.YtgpobcfbafiaaaaGreatDoor
