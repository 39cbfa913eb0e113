/-
  Package ident: what letter, digit, Name and Word return, for every argument and in every world: letB, digB, nameB, wordB. Conditions: none.
-/
import Derived.Test.YtfeoljcinibkpaaDoorPlain1
import Derived.Test.YtfeoljcinibkpaaDoorProg
import Derived.WalkKit
import Derived.Lib.Hide
namespace Go.Proofs.YtfeoljcinibkpaaDoor
open Go.RowKit

theorem ret_bool {a b : Bool} (h : a = b) : Ending.returned (.bool a) = .returned (.bool b) := by rw [h]

theorem letter_is (r : Int) (b : Bool) (hb : letB r = b) (w : World) :
    Calls Tryd.prog 23 #[.int .i32 r] w fun e w' => e = .returned (.bool b) ∧ w = w' := by
  subst hb
  unfold letB
  go_enter Tryd.func23, Tryd.ntmps23
  go_wp2
  all_goals go_ret
  all_goals exact ⟨ret_bool (by simp; try omega), rfl⟩

theorem digit_is (r : Int) (b : Bool) (hb : digB r = b) (w : World) :
    Calls Tryd.prog 24 #[.int .i32 r] w fun e w' => e = .returned (.bool b) ∧ w = w' := by
  subst hb
  unfold digB
  go_enter Tryd.func24, Tryd.ntmps24
  go_wp2
  all_goals go_ret
  all_goals exact ⟨ret_bool (by simp; try omega), rfl⟩

theorem letB_hi (n : Nat) (h : 128 ≤ n) : letB n = false := by unfold letB; simp; omega
theorem digB_hi (n : Nat) (h : 128 ≤ n) : digB n = false := by unfold digB; simp; omega
theorem letB_hi8 (c : UInt8) (h : 128 ≤ c.toNat) : letB c.toNat = false := letB_hi _ h
theorem digB_hi8 (c : UInt8) (h : 128 ≤ c.toNat) : digB c.toNat = false := digB_hi _ h
theorem beq_int_false {a b : Int} (h : ¬ a = b) : (a == b) = false := by simpa using h
theorem nameGo_hi (f : Bool) (l : Int) (c : UInt8) (r : List UInt8) (h : 128 ≤ c.toNat) : nameGo f l (c :: r) = false := by
  unfold nameGo
  rw [letB_hi8 c h, digB_hi8 c h]
  simp; omega

theorem below_iter (w : World) (s : ByteArray) (pos : Nat) : Below w.heap.size w (w.iter s pos) := (Below.refl _ w).alloc (Nat.le_refl _) _

set_option maxHeartbeats 1000000 in
theorem name_any (s : ByteArray) (w : World) (hs : s.size ≤ maxLen) :
    Calls Tryd.prog 10 #[.string s] w fun e w' => e = .returned (.bool (nameB s)) ∧ Below w.heap.size w w' := by
  unfold maxLen at hs
  by_cases h16 : s.size ≤ 16
  · go_enter Tryd.func10, Tryd.ntmps10
    go_wp2
    go_loopw [3] (fun v wr => ∃ (pos : Nat) (l : Int), wr = w.iter s pos ∧ pos ≤ s.size ∧ v = .int .i32 l ∧ Hid (nameGo (decide (pos = 0)) l (s.data.toList.drop pos) = nameGo true 45 s.data.toList)) (fun _ wr => s.size - wr.iterPos w.heap.size)
    case atStart => exact ⟨0, 45, rfl, Nat.zero_le _, rfl, rfl⟩
    case round =>
      obtain ⟨pos, l, rfl, hple, rfl, HR⟩ := hrel
      by_cases hp : pos < s.size
      · have HD := Lib.hid (drop_cons s pos hp)
        by_cases ha : (s[pos]'hp).toNat < 128
        · have hnx : ∀ ty, (Instr.next (.pointer (some ⟨w.heap.size, 0, none⟩)) true ty).run Tryd.prog (w.iter s pos) = _ := fun ty => run_next_ascii w s pos ty hp ha
          by_cases hl : letB (s[pos]'hp).toNat = true
          · have HL := Lib.hid hl
            clear hl
            go_wp2_with (go_at_call 23; refine (letter_is _ true HL.out _).mono ?_; rintro e w' ⟨rfl, rfl⟩)
            go_roundw
            case rel => exact ⟨pos + 1, _, rfl, by omega, rfl, by rw [← HR.out, HD.out, nameGo_let _ _ _ _ HL.out]; rfl⟩
            case measure => simp; omega
          · have HL := Lib.hid (Bool.eq_false_iff.2 hl)
            clear hl
            by_cases hd : digB (s[pos]'hp).toNat = true
            · have HG := Lib.hid hd
              clear hd
              by_cases h0 : pos = 0
              · subst h0
                go_wp2_with (first | (go_at_call 23; refine (letter_is _ false HL.out _).mono ?_; rintro e w' ⟨rfl, rfl⟩) | (go_at_call 24; refine (digit_is _ true HG.out _).mono ?_; rintro e w' ⟨rfl, rfl⟩))
                go_ret
                exact ⟨ret_bool (by unfold nameB; rw [← HR.out, HD.out, nameGo_dig _ _ _ _ HL.out HG.out]; simp), below_iter _ _ _⟩
              · have hpi : ((pos : Int) == 0) = false := by simp; omega
                go_wp2_with (first | (go_at_call 23; refine (letter_is _ false HL.out _).mono ?_; rintro e w' ⟨rfl, rfl⟩) | (go_at_call 24; refine (digit_is _ true HG.out _).mono ?_; rintro e w' ⟨rfl, rfl⟩))
                go_roundw
                case rel => exact ⟨pos + 1, _, rfl, by omega, rfl, by rw [← HR.out, HD.out, nameGo_dig _ _ _ _ HL.out HG.out]; simp [h0, Hid]⟩
                case measure => simp; omega
            · have HG := Lib.hid (Bool.eq_false_iff.2 hd)
              clear hd
              by_cases h3 : ((s[pos]'hp).toNat : Int) = 45
              · have H3 := Lib.hid h3
                have h3b : (((s[pos]'hp).toNat : Int) == 45) = true := by simp [h3]
                clear h3
                by_cases h4 : l = 45
                · have h4b : (l == 45) = true := by simp [h4]
                  have H4 := Lib.hid h4
                  clear h4
                  go_wp2_with (first | (go_at_call 23; refine (letter_is _ false HL.out _).mono ?_; rintro e w' ⟨rfl, rfl⟩) | (go_at_call 24; refine (digit_is _ false HG.out _).mono ?_; rintro e w' ⟨rfl, rfl⟩))
                  go_ret
                  exact ⟨ret_bool (by unfold nameB; rw [← HR.out, HD.out, nameGo_dash _ _ _ _ HL.out HG.out H3.out, if_pos H4.out]; simp), below_iter _ _ _⟩
                · have h4b : (l == 45) = false := by simp [h4]
                  go_wp2_with (first | (go_at_call 23; refine (letter_is _ false HL.out _).mono ?_; rintro e w' ⟨rfl, rfl⟩) | (go_at_call 24; refine (digit_is _ false HG.out _).mono ?_; rintro e w' ⟨rfl, rfl⟩))
                  go_roundw
                  case rel => exact ⟨pos + 1, _, rfl, by omega, rfl, by rw [← HR.out, HD.out, nameGo_dash _ _ _ _ HL.out HG.out H3.out, if_neg h4]; rfl⟩
                  case measure => simp; omega
              · have h3b : (((s[pos]'hp).toNat : Int) == 45) = false := by simpa using h3
                go_wp2_with (first | (go_at_call 23; refine (letter_is _ false HL.out _).mono ?_; rintro e w' ⟨rfl, rfl⟩) | (go_at_call 24; refine (digit_is _ false HG.out _).mono ?_; rintro e w' ⟨rfl, rfl⟩))
                go_ret
                exact ⟨ret_bool (by unfold nameB; rw [← HR.out, HD.out, nameGo_else _ _ _ _ HL.out HG.out h3]; simp), below_iter _ _ _⟩
        · have hnx : ∀ ty, (Instr.next (.pointer (some ⟨w.heap.size, 0, none⟩)) true ty).run Tryd.prog (w.iter s pos) = _ := fun ty => run_next_any w s pos ty hp
          have hhi := (decode_high s pos hp (by omega)).1
          have HL := Lib.hid (letB_hi _ hhi)
          have HG := Lib.hid (digB_hi _ hhi)
          have h3b : (((Utf8.decode s pos).1 : Int) == 45) = false := by simp; omega
          go_wp2_with (first | (go_at_call 23; refine (letter_is _ false HL.out _).mono ?_; rintro e w' ⟨rfl, rfl⟩) | (go_at_call 24; refine (digit_is _ false HG.out _).mono ?_; rintro e w' ⟨rfl, rfl⟩))
          go_ret
          exact ⟨ret_bool (by unfold nameB; rw [← HR.out, HD.out, nameGo_hi _ _ _ _ (by omega)]; simp), below_iter _ _ _⟩
      · have hnx : ∀ ty, (Instr.next (.pointer (some ⟨w.heap.size, 0, none⟩)) true ty).run Tryd.prog (w.iter s pos) = _ := fun ty => run_next_end w s pos ty hp
        have HD := Lib.hid (drop_end s pos hp)
        go_wp2
        go_ret
        exact ⟨ret_bool (by unfold nameB; rw [← HR.out, HD.out, nameGo]; by_cases hq : l = 45 <;> simp [h16, hq]), below_iter _ _ _⟩
  · go_enter Tryd.func10, Tryd.ntmps10
    go_wp2
    go_ret
    exact ⟨ret_bool (by unfold nameB; simp [h16]), Below.refl _ _⟩

set_option maxHeartbeats 1000000 in
theorem word_any (s : ByteArray) (w : World) (hs : s.size ≤ maxLen) :
    Calls Tryd.prog 12 #[.string s] w fun e w' => e = .returned (.bool (wordB s)) ∧ Below w.heap.size w w' := by
  unfold maxLen at hs
  by_cases h0 : s.size = 0
  · have H0 := Lib.hid h0
    have hz : ((s.size : Int) == 0) = true := by simp [h0]
    clear h0
    go_enter Tryd.func12, Tryd.ntmps12
    go_wp2
    go_ret
    exact ⟨ret_bool (by unfold wordB; simp [H0.out]), Below.refl _ _⟩
  · have hz : ((s.size : Int) == 0) = false := beq_int_false (by omega)
    by_cases h12 : s.size ≤ 12
    · go_enter Tryd.func12, Tryd.ntmps12
      go_wp2
      go_loopw [] (fun wr => ∃ (pos : Nat), wr = w.iter s pos ∧ pos ≤ s.size ∧ Hid (wordGo (s.data.toList.drop pos) = wordGo s.data.toList)) (fun wr => s.size - wr.iterPos w.heap.size)
      case atStart => exact ⟨0, rfl, Nat.zero_le _, rfl⟩
      case round =>
        obtain ⟨pos, rfl, hple, HR⟩ := hrel
        by_cases hp : pos < s.size
        · have HD := Lib.hid (drop_cons s pos hp)
          by_cases ha : (s[pos]'hp).toNat < 128
          · have hnx : ∀ ty, (Instr.next (.pointer (some ⟨w.heap.size, 0, none⟩)) true ty).run Tryd.prog (w.iter s pos) = _ := fun ty => run_next_ascii w s pos ty hp ha
            by_cases hl : letB (s[pos]'hp).toNat = true
            · have HL := Lib.hid hl
              clear hl
              go_wp2_with (go_at_call 23; refine (letter_is _ true HL.out _).mono ?_; rintro e w' ⟨rfl, rfl⟩)
              go_roundw
              case rel => exact ⟨pos + 1, rfl, by omega, by rw [← HR.out, HD.out, wordGo_ok _ _ (by unfold wdB; rw [HL.out]; rfl)]; rfl⟩
              case measure => simp; omega
            · have HL := Lib.hid (Bool.eq_false_iff.2 hl)
              clear hl
              by_cases hd : digB (s[pos]'hp).toNat = true
              · have HG := Lib.hid hd
                clear hd
                go_wp2_with (first | (go_at_call 23; refine (letter_is _ false HL.out _).mono ?_; rintro e w' ⟨rfl, rfl⟩) | (go_at_call 24; refine (digit_is _ true HG.out _).mono ?_; rintro e w' ⟨rfl, rfl⟩))
                go_roundw
                case rel => exact ⟨pos + 1, rfl, by omega, by rw [← HR.out, HD.out, wordGo_ok _ _ (by unfold wdB; rw [HL.out, HG.out]; rfl)]; rfl⟩
                case measure => simp; omega
              · have HG := Lib.hid (Bool.eq_false_iff.2 hd)
                clear hd
                by_cases h3 : ((s[pos]'hp).toNat : Int) = 95
                · have H3 := Lib.hid h3
                  have h3b : (((s[pos]'hp).toNat : Int) != 95) = false := by simp [h3]
                  clear h3
                  go_wp2_with (first | (go_at_call 23; refine (letter_is _ false HL.out _).mono ?_; rintro e w' ⟨rfl, rfl⟩) | (go_at_call 24; refine (digit_is _ false HG.out _).mono ?_; rintro e w' ⟨rfl, rfl⟩))
                  go_roundw
                  case rel => exact ⟨pos + 1, rfl, by omega, by rw [← HR.out, HD.out, wordGo_ok _ _ (by unfold wdB; rw [HL.out, HG.out, H3.out]; rfl)]; rfl⟩
                  case measure => simp; omega
                · have h3b : (((s[pos]'hp).toNat : Int) != 95) = true := by simpa using h3
                  go_wp2_with (first | (go_at_call 23; refine (letter_is _ false HL.out _).mono ?_; rintro e w' ⟨rfl, rfl⟩) | (go_at_call 24; refine (digit_is _ false HG.out _).mono ?_; rintro e w' ⟨rfl, rfl⟩))
                  go_ret
                  exact ⟨ret_bool (by unfold wordB; rw [← HR.out, HD.out, wordGo_bad _ _ (by unfold wdB; rw [HL.out, HG.out]; simpa using h3)]; simp), below_iter _ _ _⟩
          · have hnx : ∀ ty, (Instr.next (.pointer (some ⟨w.heap.size, 0, none⟩)) true ty).run Tryd.prog (w.iter s pos) = _ := fun ty => run_next_any w s pos ty hp
            have hhi := (decode_high s pos hp (by omega)).1
            have HL := Lib.hid (letB_hi _ hhi)
            have HG := Lib.hid (digB_hi _ hhi)
            have h3b : (((Utf8.decode s pos).1 : Int) != 95) = true := by simp; omega
            go_wp2_with (first | (go_at_call 23; refine (letter_is _ false HL.out _).mono ?_; rintro e w' ⟨rfl, rfl⟩) | (go_at_call 24; refine (digit_is _ false HG.out _).mono ?_; rintro e w' ⟨rfl, rfl⟩))
            go_ret
            exact ⟨ret_bool (by unfold wordB; rw [← HR.out, HD.out, wordGo_bad _ _ (by unfold wdB; rw [letB_hi8 _ (by omega), digB_hi8 _ (by omega)]; simp; omega)]; simp), below_iter _ _ _⟩
        · have hnx : ∀ ty, (Instr.next (.pointer (some ⟨w.heap.size, 0, none⟩)) true ty).run Tryd.prog (w.iter s pos) = _ := fun ty => run_next_end w s pos ty hp
          have HD := Lib.hid (drop_end s pos hp)
          go_wp2
          go_ret
          exact ⟨ret_bool (by unfold wordB; rw [← HR.out, HD.out, wordGo]; simp; omega), below_iter _ _ _⟩
    · go_enter Tryd.func12, Tryd.ntmps12
      go_wp2
      go_ret
      exact ⟨ret_bool (by unfold wordB; simp [h12]), Below.refl _ _⟩

end Go.Proofs.YtfeoljcinibkpaaDoor
