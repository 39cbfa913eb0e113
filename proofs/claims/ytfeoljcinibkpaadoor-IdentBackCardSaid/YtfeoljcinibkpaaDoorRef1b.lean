/-
  The document's own answer for chapter 1 (linchpinref1): Name returns nameB for every string and in every world. Conditions: none.
-/
import Derived.Test.YtfeoljcinibkpaaDoorRef1
namespace Go.Proofs.YtfeoljcinibkpaaDoor
open Go.RowKit

theorem nameB_short (s : ByteArray) (h : s.size < 1) : nameB s = false := by
  have : s.data.toList = [] := by have := drop_end s 0 (by omega); simpa using this
  unfold nameB; rw [this]; simp [nameGo]

set_option maxHeartbeats 2000000 in
theorem rname_any (s : ByteArray) (w : World) (hs : s.size ≤ maxLen) :
    Calls Tryd.prog 11 #[.string s] w fun e w' => e = .returned (.bool (nameB s)) ∧ w = w' := by
  unfold maxLen at hs
  by_cases h0 : s.size < 1
  · go_enter Tryd.func11, Tryd.ntmps11
    go_wp2
    go_ret
    exact ⟨ret_bool (by rw [nameB_short s h0]), rfl⟩
  · have hp0 : 0 < s.size := by omega
    by_cases h16 : s.size ≤ 16
    · have HB := Lib.hid (nameB_ref s hp0 h16)
      by_cases hl : letB s[0].toNat = true
      · have HL := Lib.hid hl
        clear hl
        by_cases h45 : (s[s.size - 1].toNat : Int) = 45
        · have H45 := Lib.hid h45
          have h45b : ((s[s.size - 1].toNat : Int) == 45) = true := by simp [h45]
          clear h45
          go_enter Tryd.func11, Tryd.ntmps11
          go_wp2_with (go_at_call 25; refine (low_is _ true HL.out _).mono ?_; rintro e w' ⟨rfl, rfl⟩)
          go_ret
          exact ⟨ret_bool (by rw [HB.out, HL.out, H45.out]; rfl), rfl⟩
        · have h45b : ((s[s.size - 1].toNat : Int) == 45) = false := by simpa using h45
          go_enter Tryd.func11, Tryd.ntmps11
          go_wp2_with (go_at_call 25; refine (low_is _ true HL.out _).mono ?_; rintro e w' ⟨rfl, rfl⟩)
          go_loop [3] (fun i => ∃ (k : Nat) (hk : k < s.size), i = .int .i64 (k + 1 : Nat) ∧ Hid (nameRef s[k].toNat (s.data.toList.drop (k + 1)) = nameRef s[0].toNat (s.data.toList.drop 1))) (fun i => s.size - (intOf i).toNat)
          case atStart => exact ⟨0, hp0, rfl, rfl⟩
          case round =>
            obtain ⟨k, hk, rfl, HR⟩ := hrel
            by_cases hp : k + 1 < s.size
            · have HD := Lib.hid (drop_cons s (k + 1) hp)
              by_cases hl2 : letB s[k + 1].toNat = true
              · have HL2 := Lib.hid hl2
                have hne : ¬ (s[k + 1].toNat : Int) = 45 := by unfold letB at hl2; simp at hl2; omega
                have hcb : ((s[k + 1].toNat : Int) == 45) = false := by simpa using hne
                have HN := Lib.hid hne
                clear hl2 hne
                go_wp2_with (go_at_call 25; refine (low_is _ true HL2.out _).mono ?_; rintro e w' ⟨rfl, rfl⟩)
                go_round
                case rel => exact ⟨k + 1, hp, by go_num, by rw [← HR.out, HD.out, nameRef_ok _ _ _ (by rw [HL2.out]; rfl) (by simp [HN.out])]; rfl⟩
                case measure => simp [intOf]; omega
              · have HL2 := Lib.hid (Bool.eq_false_iff.2 hl2)
                clear hl2
                by_cases hd2 : digB s[k + 1].toNat = true
                · have HG2 := Lib.hid hd2
                  have hne : ¬ (s[k + 1].toNat : Int) = 45 := by unfold digB at hd2; simp at hd2; omega
                  have hcb : ((s[k + 1].toNat : Int) == 45) = false := by simpa using hne
                  have HN := Lib.hid hne
                  clear hd2 hne
                  go_wp2_with (first | (go_at_call 25; refine (low_is _ false HL2.out _).mono ?_; rintro e w' ⟨rfl, rfl⟩) | (go_at_call 26; refine (rdigit_is _ true HG2.out _).mono ?_; rintro e w' ⟨rfl, rfl⟩))
                  go_round
                  case rel => exact ⟨k + 1, hp, by go_num, by rw [← HR.out, HD.out, nameRef_ok _ _ _ (by rw [HL2.out, HG2.out]; rfl) (by simp [HN.out])]; rfl⟩
                  case measure => simp [intOf]; omega
                · have HG2 := Lib.hid (Bool.eq_false_iff.2 hd2)
                  clear hd2
                  by_cases h3 : (s[k + 1].toNat : Int) = 45
                  · have H3 := Lib.hid h3
                    have hcb : ((s[k + 1].toNat : Int) == 45) = true := by simp [h3]
                    have hcn : ((s[k + 1].toNat : Int) != 45) = false := by simp [h3]
                    clear h3
                    by_cases h4 : (s[k].toNat : Int) = 45
                    · have H4 := Lib.hid h4
                      have hpb : ((s[k].toNat : Int) == 45) = true := by simp [h4]
                      clear h4
                      go_wp2_with (first | (go_at_call 25; refine (low_is _ false HL2.out _).mono ?_; rintro e w' ⟨rfl, rfl⟩) | (go_at_call 26; refine (rdigit_is _ false HG2.out _).mono ?_; rintro e w' ⟨rfl, rfl⟩))
                      go_ret
                      exact ⟨ret_bool (by rw [HB.out, ← HR.out, HD.out, nameRef_two _ _ _ H3.out H4.out]; simp), rfl⟩
                    · have hpb : ((s[k].toNat : Int) == 45) = false := by simpa using h4
                      go_wp2_with (first | (go_at_call 25; refine (low_is _ false HL2.out _).mono ?_; rintro e w' ⟨rfl, rfl⟩) | (go_at_call 26; refine (rdigit_is _ false HG2.out _).mono ?_; rintro e w' ⟨rfl, rfl⟩))
                      go_round
                      case rel => exact ⟨k + 1, hp, by go_num, by rw [← HR.out, HD.out, nameRef_ok _ _ _ (by rw [H3.out]; simp) (by simp [h4])]; rfl⟩
                      case measure => simp [intOf]; omega
                  · have hcn : ((s[k + 1].toNat : Int) != 45) = true := by simpa using h3
                    go_wp2_with (first | (go_at_call 25; refine (low_is _ false HL2.out _).mono ?_; rintro e w' ⟨rfl, rfl⟩) | (go_at_call 26; refine (rdigit_is _ false HG2.out _).mono ?_; rintro e w' ⟨rfl, rfl⟩))
                    go_ret
                    exact ⟨ret_bool (by rw [HB.out, ← HR.out, HD.out, nameRef_bad _ _ _ (by rw [HL2.out, HG2.out]; simpa using h3)]; simp), rfl⟩
            · have HD := Lib.hid (drop_end s (k + 1) hp)
              go_wp2
              go_ret
              exact ⟨ret_bool (by rw [HB.out, ← HR.out, HD.out, HL.out, nameRef]; simp [h45]), rfl⟩
      · have HL := Lib.hid (Bool.eq_false_iff.2 hl)
        clear hl
        go_enter Tryd.func11, Tryd.ntmps11
        go_wp2_with (go_at_call 25; refine (low_is _ false HL.out _).mono ?_; rintro e w' ⟨rfl, rfl⟩)
        go_ret
        exact ⟨ret_bool (by rw [HB.out, HL.out]; rfl), rfl⟩
    · go_enter Tryd.func11, Tryd.ntmps11
      go_wp2
      go_ret
      exact ⟨ret_bool (by unfold nameB; simp [h16]), rfl⟩
end Go.Proofs.YtfeoljcinibkpaaDoor
