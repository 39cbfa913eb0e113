/-
  Stage 1, IdentJoins: two names joined by one hyphen are a name if they are not too long together; by two they are none, and a name with a hyphen behind it is none. Condition: the library's table of powers of ten reads as it is laid.
-/
import Derived.Test.YtfeoljcinibkpaaDoorLaw1
namespace Go.Proofs.YtfeoljcinibkpaaDoor
open Go.RowKit Go.ChangeShapes

theorem nameGo_app (l : List UInt8) : ∀ (f : Bool) (last : Int) (y : List UInt8), nameGo f last l = true → nameGo f last (l ++ y) = nameGo (f && l.isEmpty) (lastOf last l) y := by
  induction l with
  | nil => intro f last y _; simp [lastOf]
  | cons c r ih =>
    intro f last y h
    rw [List.cons_append]
    unfold lastOf
    have ih2 := fun hh => ih false (c.toNat : Int) y hh
    rw [Bool.false_and] at ih2
    rw [List.isEmpty_cons, Bool.and_false]
    cases hl : letB c.toNat with
    | true =>
      rw [nameGo_let _ _ _ _ hl] at h ⊢
      exact ih2 h
    | false =>
      cases hd : digB c.toNat with
      | true =>
        rw [nameGo_dig _ _ _ _ hl hd] at h ⊢
        cases f with
        | true => simp at h
        | false => simp at h ⊢; exact ih2 h
      | false =>
        by_cases h3 : (c.toNat : Int) = 45
        · rw [nameGo_dash _ _ _ _ hl hd h3] at h ⊢
          by_cases h4 : last = 45
          · rw [if_pos h4] at h; cases h
          · rw [if_neg h4] at h ⊢; exact ih2 h
        · rw [nameGo_else _ _ _ _ hl hd h3] at h; cases h
theorem nameGo_last (l : List UInt8) : ∀ (f : Bool) (last : Int), nameGo f last l = true → lastOf last l ≠ 45 := by
  induction l with
  | nil => intro f last h; simpa [nameGo, lastOf] using h
  | cons c r ih =>
    intro f last h
    unfold lastOf
    cases hl : letB c.toNat with
    | true => rw [nameGo_let _ _ _ _ hl] at h; exact ih _ _ h
    | false =>
      cases hd : digB c.toNat with
      | true =>
        rw [nameGo_dig _ _ _ _ hl hd] at h
        cases f with
        | true => simp at h
        | false => exact ih _ _ (by simpa using h)
      | false =>
        by_cases h3 : (c.toNat : Int) = 45
        · rw [nameGo_dash _ _ _ _ hl hd h3] at h
          by_cases h4 : last = 45
          · rw [if_pos h4] at h; cases h
          · rw [if_neg h4] at h; exact ih _ _ h
        · rw [nameGo_else _ _ _ _ hl hd h3] at h; cases h
theorem nameGo_start (l : List UInt8) (h : nameGo true 45 l = true) : nameGo false 45 l = true := by
  cases l with
  | nil => simp [nameGo] at h
  | cons c r =>
    cases hl : letB c.toNat with
    | true => rw [nameGo_let _ _ _ _ hl] at h ⊢; exact h
    | false =>
      cases hd : digB c.toNat with
      | true => rw [nameGo_dig _ _ _ _ hl hd] at h; simp at h
      | false =>
        by_cases h3 : (c.toNat : Int) = 45
        · rw [nameGo_dash _ _ _ _ hl hd h3] at h; simp at h
        · rw [nameGo_else _ _ _ _ hl hd h3] at h; cases h
theorem go_dash (last : Int) (r : List UInt8) (h : last ≠ 45) : nameGo false last (45 :: r) = nameGo false 45 r := by
  rw [nameGo_dash _ _ _ _ (by decide) (by decide) (by decide), if_neg h]; rfl
theorem go_dash2 (r : List UInt8) : nameGo false 45 (45 :: r) = false := by
  rw [nameGo_dash _ _ _ _ (by decide) (by decide) (by decide), if_pos rfl]

theorem join_parts (a : ByteArray) (h : nameB a = true) : nameGo true 45 a.data.toList = true ∧ a.data.toList.isEmpty = false := by
  unfold nameB at h
  rw [Bool.and_eq_true] at h
  refine ⟨h.2, ?_⟩
  cases e : a.data.toList with
  | nil => rw [e] at h; simp [nameGo] at h
  | cons c r => rfl
theorem join_one (a b : ByteArray) (ha : nameB a = true) (hb : nameB b = true) : nameB (a ++ ⟨#[45]⟩ ++ b) = decide (a.size + b.size + 1 ≤ 16) := by
  obtain ⟨a1, a2⟩ := join_parts a ha
  obtain ⟨b1, _⟩ := join_parts b hb
  have e : (a ++ ⟨#[45]⟩ ++ b).data.toList = a.data.toList ++ (45 :: b.data.toList) := by simp
  have ez : (a ++ ⟨#[45]⟩ ++ b).size = a.size + b.size + 1 := by
    rw [ByteArray.size_append, ByteArray.size_append]; show a.size + 1 + b.size = _; omega
  unfold nameB
  rw [e, ez, nameGo_app _ _ _ _ a1, a2, Bool.and_false, go_dash _ _ (nameGo_last _ _ _ a1), nameGo_start _ b1, Bool.and_true]
theorem join_two (a b : ByteArray) (ha : nameB a = true) : nameB (a ++ ⟨#[45, 45]⟩ ++ b) = false := by
  obtain ⟨a1, a2⟩ := join_parts a ha
  have e : (a ++ ⟨#[45, 45]⟩ ++ b).data.toList = a.data.toList ++ (45 :: 45 :: b.data.toList) := by simp
  unfold nameB
  rw [e, nameGo_app _ _ _ _ a1, a2, Bool.and_false, go_dash _ _ (nameGo_last _ _ _ a1), go_dash2, Bool.and_false]
theorem join_end (a : ByteArray) (ha : nameB a = true) : nameB (a ++ ⟨#[45]⟩) = false := by
  obtain ⟨a1, a2⟩ := join_parts a ha
  have e : (a ++ ⟨#[45]⟩).data.toList = a.data.toList ++ [45] := by simp
  unfold nameB
  rw [e, nameGo_app _ _ _ _ a1, a2, Bool.and_false, go_dash _ _ (nameGo_last _ _ _ a1), nameGo]
  simp

theorem name_is (s : ByteArray) (b : Bool) (hb : nameB s = b) (w : World) (hs : s.size ≤ maxLen) :
    Calls Tryd.prog 10 #[.string s] w fun e w' => e = .returned (.bool b) ∧ Below w.heap.size w w' := by
  subst hb; exact name_any s w hs

set_option maxHeartbeats 2000000 in
theorem identJoins.law (W : World) (a : ByteArray) (ha : a.size ≤ maxLen) (b : ByteArray) (hb : b.size ≤ maxLen) (ht : HasTab W) :
    Calls Tryd.prog 8 #[.string a, .string b] W fun e w' => e = .returned (.bool true) ∧ Below W.heap.size W w' := by
  have HT := Lib.hid ht
  clear ht
  have HA := Lib.hid ha
  have HB := Lib.hid hb
  unfold maxLen at ha hb
  by_cases ha20 : a.size ≤ 20
  · by_cases hb20 : b.size ≤ 20
    · cases hna : nameB a with
      | false =>
        have NA := Lib.hid hna
        clear hna
        go_enter Tryd.func8, Tryd.ntmps8
        go_wp2_with fail
        refine (name_is a false NA.out _ HA.out).mono ?_
        rintro e w1 ⟨rfl, b1⟩
        have s1 := b1.size
        go_wp2_with fail
        refine (awake_any _ (HT.out.on b1)).mono ?_
        rintro e w2 ⟨rfl, b2⟩
        have c2 : Below W.heap.size W w2 := b1.trans (b2.mono s1)
        go_wp2_with fail
        go_ret
        exact ⟨rfl, c2⟩
      | true =>
        have NA := Lib.hid hna
        clear hna
        cases hnb : nameB b with
        | false =>
          have NB := Lib.hid hnb
          clear hnb
          go_enter Tryd.func8, Tryd.ntmps8
          go_wp2_with fail
          refine (name_is a true NA.out _ HA.out).mono ?_
          rintro e w1 ⟨rfl, b1⟩
          have s1 := b1.size
          go_wp2_with fail
          refine (name_is b false NB.out _ HB.out).mono ?_
          rintro e w2 ⟨rfl, b2⟩
          have c2 : Below W.heap.size W w2 := b1.trans (b2.mono s1)
          go_wp2_with fail
          refine (awake_any _ (HT.out.on c2)).mono ?_
          rintro e w3 ⟨rfl, b3⟩
          have c3 : Below W.heap.size W w3 := c2.trans (b3.mono c2.size)
          go_wp2_with fail
          go_ret
          exact ⟨rfl, c3⟩
        | true =>
          have NB := Lib.hid hnb
          clear hnb
          have J1 := Lib.hid (join_one a b NA.out NB.out)
          have J2 := Lib.hid (join_two a b NA.out)
          have J3 := Lib.hid (join_end a NA.out)
          have z1 : (a ++ ⟨#[45]⟩ : ByteArray).size ≤ a.size + 1 := by rw [ByteArray.size_append]; exact Nat.le_refl _
          have z2 : (a ++ ⟨#[45, 45]⟩ : ByteArray).size ≤ a.size + 2 := by rw [ByteArray.size_append]; exact Nat.le_refl _
          have z3 : (a ++ ⟨#[45]⟩ ++ b : ByteArray).size ≤ maxLen := by rw [ByteArray.size_append]; unfold maxLen; omega
          have z4 : (a ++ ⟨#[45, 45]⟩ ++ b : ByteArray).size ≤ maxLen := by rw [ByteArray.size_append]; unfold maxLen; omega
          have z5 : (a ++ ⟨#[45]⟩ : ByteArray).size ≤ maxLen := by unfold maxLen; omega
          have Z3 := Lib.hid z3
          have Z4 := Lib.hid z4
          have Z5 := Lib.hid z5
          clear z3 z4 z5
          by_cases h16 : a.size + b.size + 1 ≤ 16
          · have J1b := Lib.hid (J1.out.trans (decide_eq_true h16))
            go_enter Tryd.func8, Tryd.ntmps8
            go_wp2_with fail
            refine (name_is a true NA.out _ HA.out).mono ?_
            rintro e w1 ⟨rfl, b1⟩
            have s1 := b1.size
            go_wp2_with fail
            refine (name_is b true NB.out _ HB.out).mono ?_
            rintro e w2 ⟨rfl, b2⟩
            have c2 : Below W.heap.size W w2 := b1.trans (b2.mono s1)
            clear b1 b2
            go_wp2_with fail
            refine (awake_any _ (HT.out.on c2)).mono ?_
            rintro e w3 ⟨rfl, b3⟩
            have c3 : Below W.heap.size W w3 := c2.trans (b3.mono c2.size)
            clear b3 c2
            go_wp2_with fail
            refine (name_is _ true J1b.out _ Z3.out).mono ?_
            rintro e w4 ⟨rfl, b4⟩
            have c4 : Below W.heap.size W w4 := c3.trans (b4.mono c3.size)
            clear b4 c3
            go_wp2_with fail
            refine (name_is _ false J2.out _ Z4.out).mono ?_
            rintro e w5 ⟨rfl, b5⟩
            have c5 : Below W.heap.size W w5 := c4.trans (b5.mono c4.size)
            clear b5 c4
            go_wp2_with fail
            refine (name_is _ false J3.out _ Z5.out).mono ?_
            rintro e w6 ⟨rfl, b6⟩
            have c6 : Below W.heap.size W w6 := c5.trans (b6.mono c5.size)
            clear b6 c5
            go_wp2_with fail
            go_ret
            exact ⟨rfl, c6⟩
          · have J1b := Lib.hid (J1.out.trans (decide_eq_false h16))
            go_enter Tryd.func8, Tryd.ntmps8
            go_wp2_with fail
            refine (name_is a true NA.out _ HA.out).mono ?_
            rintro e w1 ⟨rfl, b1⟩
            have s1 := b1.size
            go_wp2_with fail
            refine (name_is b true NB.out _ HB.out).mono ?_
            rintro e w2 ⟨rfl, b2⟩
            have c2 : Below W.heap.size W w2 := b1.trans (b2.mono s1)
            clear b1 b2
            go_wp2_with fail
            refine (awake_any _ (HT.out.on c2)).mono ?_
            rintro e w3 ⟨rfl, b3⟩
            have c3 : Below W.heap.size W w3 := c2.trans (b3.mono c2.size)
            clear b3 c2
            go_wp2_with fail
            refine (name_is _ false J1b.out _ Z3.out).mono ?_
            rintro e w4 ⟨rfl, b4⟩
            have c4 : Below W.heap.size W w4 := c3.trans (b4.mono c3.size)
            clear b4 c3
            go_wp2_with fail
            refine (name_is _ false J2.out _ Z4.out).mono ?_
            rintro e w5 ⟨rfl, b5⟩
            have c5 : Below W.heap.size W w5 := c4.trans (b5.mono c4.size)
            clear b5 c4
            go_wp2_with fail
            refine (name_is _ false J3.out _ Z5.out).mono ?_
            rintro e w6 ⟨rfl, b6⟩
            have c6 : Below W.heap.size W w6 := c5.trans (b6.mono c5.size)
            clear b6 c5
            go_wp2_with fail
            go_ret
            exact ⟨ret_bool (by simp; omega), c6⟩
    · go_enter Tryd.func8, Tryd.ntmps8
      go_wp2_with fail
      refine (awake_any _ HT.out).mono ?_
      rintro e w1 ⟨rfl, b1⟩
      go_wp2_with fail
      go_ret
      exact ⟨rfl, b1⟩
  · go_enter Tryd.func8, Tryd.ntmps8
    go_wp2_with fail
    refine (awake_any _ HT.out).mono ?_
    rintro e w1 ⟨rfl, b1⟩
    go_wp2_with fail
    go_ret
    exact ⟨rfl, b1⟩
end Go.Proofs.YtfeoljcinibkpaaDoor
