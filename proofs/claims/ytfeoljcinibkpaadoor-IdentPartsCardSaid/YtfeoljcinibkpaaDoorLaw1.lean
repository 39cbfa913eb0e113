/-
  Stage 1: each statement's function returns true for every argument and in every world in which the library's table of powers of ten reads as it is laid; nothing that was there is changed.
-/
import Derived.Test.YtfeoljcinibkpaaDoorAwake1
import Derived.Test.YtfeoljcinibkpaaDoorRef1b
import Derived.OpenShut
namespace Go.Proofs.YtfeoljcinibkpaaDoor
open Go.RowKit Go.ChangeShapes

set_option maxHeartbeats 1000000 in
theorem identNames.law (W : World) (s : ByteArray) (hs : s.size ≤ maxLen) (ht : HasTab W) :
    Calls Tryd.prog 3 #[.string s] W fun e w' => e = .returned (.bool true) ∧ Below W.heap.size W w' := by
  have HT := Lib.hid ht
  clear ht
  go_enter Tryd.func3, Tryd.ntmps3
  go_wp2_with fail
  refine (awake_any _ HT.out).mono ?_
  rintro e w1 ⟨rfl, b1⟩
  have s1 := b1.size
  go_wp2_with fail
  refine (name_any s _ hs).mono ?_
  rintro e w2 ⟨rfl, b2⟩
  have c2 : Below W.heap.size W w2 := b1.trans (b2.mono s1)
  go_wp2_with fail
  refine (rname_any s _ hs).mono ?_
  rintro e w3 ⟨rfl, rfl⟩
  go_wp2_with fail
  refine (word_any s _ hs).mono ?_
  rintro e w4 ⟨rfl, b4⟩
  have c4 : Below W.heap.size W w4 := c2.trans (b4.mono c2.size)
  go_wp2_with fail
  refine (rword_any s _ hs).mono ?_
  rintro e w5 ⟨rfl, rfl⟩
  go_wp2_with fail
  go_ret
  exact ⟨ret_bool (by simp), c4⟩

set_option maxHeartbeats 1000000 in
theorem identNumbers.law (W : World) (s : ByteArray) (hs : s.size ≤ maxLen) (n : Int) (hn : (Lit.int .i64 n).wf = true) (ht : HasTab W) :
    Calls Tryd.prog 4 #[.string s, .int .i64 n] W fun e w' => e = .returned (.bool true) ∧ Below W.heap.size W w' := by
  have HT := Lib.hid ht
  clear ht
  obtain ⟨n0, n1⟩ := bounds_i64 hn
  clear hn
  go_enter Tryd.func4, Tryd.ntmps4
  go_wp2_with fail
  refine (number_any s _ hs).mono ?_
  rintro e w1 ⟨rfl, b1⟩
  have s1 := b1.size
  go_wp2_with fail
  refine (rnumber_any s _ hs).mono ?_
  rintro e w1b ⟨rfl, rfl⟩
  go_wp2_with fail
  refine (awake_any _ (HT.out.on b1)).mono ?_
  rintro e w2 ⟨rfl, b2⟩
  have c2 : Below W.heap.size W w2 := b1.trans (b2.mono s1)
  go_wp2_with fail
  refine (digits_any n n0 n1 _ (HT.out.on c2)).mono ?_
  rintro e w3 ⟨rfl, b3⟩
  have c3 : Below W.heap.size W w3 := c2.trans (b3.mono c2.size)
  go_wp2_with fail
  refine (rdigits_any n n0 n1 _).mono ?_
  rintro e w4 ⟨rfl, b4⟩
  have c4 : Below W.heap.size W w4 := c3.trans (b4.mono c3.size)
  go_wp2_with fail
  go_ret
  exact ⟨ret_bool (by simp), c4⟩

theorem back_in (n : Int) (h0 : 0 ≤ n) (h1 : n ≤ 9999) : numV (digS n) = n ∧ numOk (digS n) = true := by
  obtain ⟨u, rfl⟩ : ∃ u : Nat, n = (u : Int) := ⟨n.toNat, by omega⟩
  have e : numGo 0 true (digS (u : Int)).data.toList = some u := by
    unfold digS
    rw [Lib.itoa_nonneg]
    show numGo 0 true (Lib.decDigits u) = _
    rw [num_dec, if_pos (by omega)]
  exact ⟨numV_some e, numOk_some e⟩
theorem back_out (n : Int) (h : n < 0 ∨ 9999 < n) : numOk (digS n) = false := by
  apply numOk_none
  by_cases hn : n < 0
  · obtain ⟨u, hu, rfl⟩ : ∃ u : Nat, 1 ≤ u ∧ n = -(u : Int) := ⟨n.natAbs, by omega, by omega⟩
    unfold digS
    rw [Lib.itoa_neg u hu]
    exact num_neg _
  · obtain ⟨u, rfl⟩ : ∃ u : Nat, n = (u : Int) := ⟨n.toNat, by omega⟩
    unfold digS
    rw [Lib.itoa_nonneg]
    show numGo 0 true (Lib.decDigits u) = _
    rw [num_dec, if_neg (by omega)]
theorem digS_size (n : Int) (h0 : -9223372036854775808 ≤ n) (h1 : n ≤ 9223372036854775807) : (digS n).size ≤ maxLen := by
  have := Lib.itoa_length_le n h0 h1
  show (Lib.itoa n).toArray.size ≤ maxLen
  rw [List.size_toArray]; unfold maxLen; omega

set_option maxHeartbeats 1000000 in
theorem identBack.law (W : World) (n : Int) (hn : (Lit.int .i64 n).wf = true) (ht : HasTab W) :
    Calls Tryd.prog 5 #[.int .i64 n] W fun e w' => e = .returned (.bool true) ∧ Below W.heap.size W w' := by
  have HT := Lib.hid ht
  clear ht
  obtain ⟨n0, n1⟩ := bounds_i64 hn
  clear hn
  have hz := digS_size n n0 n1
  by_cases h : 0 ≤ n ∧ n ≤ 9999
  · obtain ⟨h0, h1⟩ := h
    have HB := Lib.hid (back_in n h0 h1)
    go_enter Tryd.func5, Tryd.ntmps5
    go_wp2_with fail
    refine (digits_any n n0 n1 _ HT.out).mono ?_
    rintro e w1 ⟨rfl, b1⟩
    have s1 := b1.size
    go_wp2_with fail
    refine (number_any _ _ hz).mono ?_
    rw [HB.out.1, HB.out.2]
    rintro e w2 ⟨rfl, b2⟩
    have c2 : Below W.heap.size W w2 := b1.trans (b2.mono s1)
    go_wp2_with fail
    refine (awake_any _ (HT.out.on c2)).mono ?_
    rintro e w3 ⟨rfl, b3⟩
    have c3 : Below W.heap.size W w3 := c2.trans (b3.mono c2.size)
    go_wp2_with fail
    go_ret
    exact ⟨ret_bool (by simp), c3⟩
  · have HB := Lib.hid (back_out n (by omega))
    by_cases h0 : 0 ≤ n
    all_goals
      go_enter Tryd.func5, Tryd.ntmps5
      go_wp2_with fail
      refine (digits_any n n0 n1 _ HT.out).mono ?_
      rintro e w1 ⟨rfl, b1⟩
      have s1 := b1.size
      go_wp2_with fail
      refine (number_any _ _ hz).mono ?_
      rw [HB.out]
      rintro e w2 ⟨rfl, b2⟩
      have c2 : Below W.heap.size W w2 := b1.trans (b2.mono s1)
      go_wp2_with fail
      refine (awake_any _ (HT.out.on c2)).mono ?_
      rintro e w3 ⟨rfl, b3⟩
      have c3 : Below W.heap.size W w3 := c2.trans (b3.mono c2.size)
      go_wp2_with fail
      go_ret
      exact ⟨rfl, c3⟩
end Go.Proofs.YtfeoljcinibkpaaDoor
