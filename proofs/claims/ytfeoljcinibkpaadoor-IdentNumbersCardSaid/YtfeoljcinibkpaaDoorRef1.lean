/-
  The document's own answer for chapter 1 (linchpinref1): what low, digit, Name and Word return, for every argument and in every world: the same plain functions as package ident's. Conditions: none.
-/
import Derived.Test.YtfeoljcinibkpaaDoorIdent1
namespace Go.Proofs.YtfeoljcinibkpaaDoor
open Go.RowKit

theorem low_is (r : Int) (b : Bool) (hb : letB r = b) (w : World) :
    Calls Tryd.prog 25 #[.int .u8 r] w fun e w' => e = .returned (.bool b) ∧ w = w' := by
  subst hb
  unfold letB
  go_enter Tryd.func25, Tryd.ntmps25
  go_wp2
  all_goals go_ret
  all_goals exact ⟨ret_bool (by simp; try omega), rfl⟩

theorem rdigit_is (r : Int) (b : Bool) (hb : digB r = b) (w : World) :
    Calls Tryd.prog 26 #[.int .u8 r] w fun e w' => e = .returned (.bool b) ∧ w = w' := by
  subst hb
  unfold digB
  go_enter Tryd.func26, Tryd.ntmps26
  go_wp2
  all_goals go_ret
  all_goals exact ⟨ret_bool (by simp; try omega), rfl⟩

set_option maxHeartbeats 1000000 in
theorem rword_any (s : ByteArray) (w : World) (hs : s.size ≤ maxLen) :
    Calls Tryd.prog 13 #[.string s] w fun e w' => e = .returned (.bool (wordB s)) ∧ w = w' := by
  unfold maxLen at hs
  by_cases h0 : s.size < 1
  · go_enter Tryd.func13, Tryd.ntmps13
    go_wp2
    go_ret
    exact ⟨ret_bool (by unfold wordB; simp; omega), rfl⟩
  · by_cases h12 : s.size ≤ 12
    · go_enter Tryd.func13, Tryd.ntmps13
      go_wp2
      go_loop [3] (fun i => ∃ k : Nat, k ≤ s.size ∧ i = .int .i64 k ∧ Hid (wordGo (s.data.toList.drop k) = wordGo s.data.toList)) (fun i => s.size - (intOf i).toNat)
      case atStart => exact ⟨0, Nat.zero_le _, rfl, rfl⟩
      case round =>
        obtain ⟨k, hk, rfl, HR⟩ := hrel
        by_cases hp : k < s.size
        · have HD := Lib.hid (drop_cons s k hp)
          by_cases hl : letB (s[k]'hp).toNat = true
          · have HL := Lib.hid hl
            clear hl
            go_wp2_with (go_at_call 25; refine (low_is _ true HL.out _).mono ?_; rintro e w' ⟨rfl, rfl⟩)
            go_round
            case rel => exact ⟨k + 1, by omega, by go_num, by rw [← HR.out, HD.out, wordGo_ok _ _ (by unfold wdB; rw [HL.out]; rfl)]; rfl⟩
            case measure => simp [intOf]; omega
          · have HL := Lib.hid (Bool.eq_false_iff.2 hl)
            clear hl
            by_cases hd : digB (s[k]'hp).toNat = true
            · have HG := Lib.hid hd
              clear hd
              go_wp2_with (first | (go_at_call 25; refine (low_is _ false HL.out _).mono ?_; rintro e w' ⟨rfl, rfl⟩) | (go_at_call 26; refine (rdigit_is _ true HG.out _).mono ?_; rintro e w' ⟨rfl, rfl⟩))
              go_round
              case rel => exact ⟨k + 1, by omega, by go_num, by rw [← HR.out, HD.out, wordGo_ok _ _ (by unfold wdB; rw [HL.out, HG.out]; rfl)]; rfl⟩
              case measure => simp [intOf]; omega
            · have HG := Lib.hid (Bool.eq_false_iff.2 hd)
              clear hd
              by_cases h3 : ((s[k]'hp).toNat : Int) = 95
              · have H3 := Lib.hid h3
                have h3b : (((s[k]'hp).toNat : Int) != 95) = false := by simp [h3]
                clear h3
                go_wp2_with (first | (go_at_call 25; refine (low_is _ false HL.out _).mono ?_; rintro e w' ⟨rfl, rfl⟩) | (go_at_call 26; refine (rdigit_is _ false HG.out _).mono ?_; rintro e w' ⟨rfl, rfl⟩))
                go_round
                case rel => exact ⟨k + 1, by omega, by go_num, by rw [← HR.out, HD.out, wordGo_ok _ _ (by unfold wdB; rw [HL.out, HG.out, H3.out]; rfl)]; rfl⟩
                case measure => simp [intOf]; omega
              · have h3b : (((s[k]'hp).toNat : Int) != 95) = true := by simpa using h3
                go_wp2_with (first | (go_at_call 25; refine (low_is _ false HL.out _).mono ?_; rintro e w' ⟨rfl, rfl⟩) | (go_at_call 26; refine (rdigit_is _ false HG.out _).mono ?_; rintro e w' ⟨rfl, rfl⟩))
                go_ret
                exact ⟨ret_bool (by unfold wordB; rw [← HR.out, HD.out, wordGo_bad _ _ (by unfold wdB; rw [HL.out, HG.out]; simpa using h3)]; simp), rfl⟩
        · have HD := Lib.hid (drop_end s k hp)
          go_wp2
          go_ret
          exact ⟨ret_bool (by unfold wordB; rw [← HR.out, HD.out, wordGo]; simp; omega), rfl⟩
    · go_enter Tryd.func13, Tryd.ntmps13
      go_wp2
      go_ret
      exact ⟨ret_bool (by unfold wordB; simp [h12]), rfl⟩
end Go.Proofs.YtfeoljcinibkpaaDoor
