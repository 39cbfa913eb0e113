/-
  The statements' own check by hand, linchpinlaw1.awake: it returns true in every world in which the library's table of powers of ten reads as it is laid; nothing that was there is changed.
-/
import Derived.Test.YtfeoljcinibkpaaDoorSame
namespace Go.Proofs.YtfeoljcinibkpaaDoor
open Go.RowKit

theorem aw_num (w : World) : Calls Tryd.prog 14 #[.string ⟨#[49, 50, 48]⟩] w fun e w' => e = .returned (.tuple #[.int .i64 120, .bool true]) ∧ Below w.heap.size w w' :=
  (number_any _ w (by decide)).mono fun _ _ ⟨he, hb⟩ => ⟨he.trans (ret_num (by decide) (by decide)), hb⟩
theorem aw_name (w : World) : Calls Tryd.prog 10 #[.string ⟨#[97, 45, 49]⟩] w fun e w' => e = .returned (.bool true) ∧ Below w.heap.size w w' :=
  (name_any _ w (by decide)).mono fun _ _ ⟨he, hb⟩ => ⟨he.trans (ret_bool (by decide)), hb⟩
theorem aw_name2 (w : World) : Calls Tryd.prog 10 #[.string ⟨#[49, 97]⟩] w fun e w' => e = .returned (.bool false) ∧ Below w.heap.size w w' :=
  (name_any _ w (by decide)).mono fun _ _ ⟨he, hb⟩ => ⟨he.trans (ret_bool (by decide)), hb⟩
theorem aw_word (w : World) : Calls Tryd.prog 12 #[.string ⟨#[120, 95, 49]⟩] w fun e w' => e = .returned (.bool true) ∧ Below w.heap.size w w' :=
  (word_any _ w (by decide)).mono fun _ _ ⟨he, hb⟩ => ⟨he.trans (ret_bool (by decide)), hb⟩
theorem aw_word2 (w : World) : Calls Tryd.prog 12 #[.string ⟨#[]⟩] w fun e w' => e = .returned (.bool false) ∧ Below w.heap.size w w' :=
  (word_any _ w (by decide)).mono fun _ _ ⟨he, hb⟩ => ⟨he.trans (ret_bool (by decide)), hb⟩
theorem digS5 : digS (-5) = ⟨#[45, 53]⟩ := by
  unfold digS
  rw [show (-5 : Int) = -((5 : Nat) : Int) from rfl, Lib.itoa_neg 5 (by omega), Lib.decDigits, dif_pos (by omega)]; rfl
theorem aw_dig (w : World) (ht : HasTab w) : Calls Tryd.prog 16 #[.int .i64 (-5)] w fun e w' => e = .returned (.string ⟨#[45, 53]⟩) ∧ Below w.heap.size w w' :=
  (digits_any (-5) (by omega) (by omega) w ht).mono fun _ _ ⟨he, hb⟩ => ⟨he.trans (ret_str digS5), hb⟩
theorem aw_split (w : World) : Calls Tryd.prog 19 #[.string ⟨#[97, 46, 98]⟩, .int .u8 46] w fun e w' => ∃ v, e = .returned v ∧ ReadsT w' w'.heap.size v [[97], [98]] ∧ Below w.heap.size w w' :=
  (split_any ⟨#[97, 46, 98]⟩ 46 w (by decide)).mono fun _ _ ⟨v, he, ho, hb⟩ => ⟨v, he, ReadsT.of_own ho, hb⟩
theorem aw_join (v : Value) (w : World) (h : ReadsT w w.heap.size v [[97], [98]]) : Calls Tryd.prog 21 #[v, .int .u8 45] w fun e w' => e = .returned (.string ⟨#[97, 45, 98]⟩) ∧ Below w.heap.size w w' :=
  (join_any v [[97], [98]] 45 w h (by decide) (by decide)).mono fun _ _ ⟨he, hb⟩ => ⟨he, hb⟩

set_option maxHeartbeats 2000000 in
theorem awake_any (w : World) (ht : HasTab w) :
    Calls Tryd.prog 9 #[] w fun e w' => e = .returned (.bool true) ∧ Below w.heap.size w w' := by
  have HT := Lib.hid ht
  clear ht
  go_enter Tryd.func9, Tryd.ntmps9
  go_wp2_with fail
  refine (aw_num _).mono ?_
  rintro e w1 ⟨rfl, b1⟩
  go_wp2_with fail
  refine (aw_name _).mono ?_
  rintro e w2 ⟨rfl, b2⟩
  go_wp2_with fail
  refine (aw_name2 _).mono ?_
  rintro e w3 ⟨rfl, b3⟩
  go_wp2_with fail
  refine (aw_word _).mono ?_
  rintro e w4 ⟨rfl, b4⟩
  go_wp2_with fail
  refine (aw_word2 _).mono ?_
  rintro e w5 ⟨rfl, b5⟩
  have c5 : Below w.heap.size w w5 := b1.trans ((b2.trans ((b3.trans ((b4.trans (b5.mono b4.size)).mono b3.size)).mono b2.size)).mono b1.size)
  clear b1 b2 b3 b4 b5
  have s5 := c5.size
  go_wp2_with fail
  refine (aw_dig _ (HT.out.on c5)).mono ?_
  rintro e w6 ⟨rfl, b6⟩
  have c6 : Below w.heap.size w w6 := c5.trans (b6.mono s5)
  clear b6
  go_wp2_with fail
  refine (aw_split _).mono ?_
  rintro e w7 ⟨v, rfl, hv, b7⟩
  have c7 : Below w.heap.size w w7 := c6.trans (b7.mono c6.size)
  clear b7
  go_wp2_with fail
  refine (aw_join v _ hv).mono ?_
  rintro e w8 ⟨rfl, b8⟩
  have c8 : Below w.heap.size w w8 := c7.trans (b8.mono c7.size)
  clear b8
  go_wp2_with fail
  go_ret
  exact ⟨rfl, c8⟩
end Go.Proofs.YtfeoljcinibkpaaDoor
