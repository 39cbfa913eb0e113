/-
  Package ident's Number and the document's own answer's Number: both return, for every string and in every world, the number that numB finds, and whether it finds one. Conditions: none.
-/
import Derived.Test.YtndjdmbbndcohaaBase
import Derived.Test.YtndjdmbbndcohaaPlain2
import Derived.Lib.Strings
namespace Go.Proofs.Ytndjdmbbndcohaa
open Go.RowKit

theorem ret_num {a b : Int} {p q : Bool} (h : a = b) (h2 : p = q) : Ending.returned (.tuple #[.int .i64 a, .bool p]) = .returned (.tuple #[.int .i64 b, .bool q]) := by rw [h, h2]
theorem numV_none {s : ByteArray} (h : numGo 0 true s.data.toList = none) : numV s = 0 := by unfold numV numB; rw [h]; rfl
theorem numOk_none {s : ByteArray} (h : numGo 0 true s.data.toList = none) : numOk s = false := by unfold numOk numB; rw [h]; rfl
theorem numV_some {s : ByteArray} {n : Nat} (h : numGo 0 true s.data.toList = some n) : numV s = n := by unfold numV numB; rw [h]; rfl
theorem numOk_some {s : ByteArray} {n : Nat} (h : numGo 0 true s.data.toList = some n) : numOk s = true := by unfold numOk numB; rw [h]; rfl
theorem digB_range {n : Nat} (h : digB n = true) : 48 ≤ n ∧ n ≤ 57 := by unfold digB at h; simp at h; omega

set_option maxHeartbeats 2000000 in
theorem number_any (s : ByteArray) (w : World) (hs : s.size ≤ maxLen) :
    Calls Try.prog 49 #[.string s] w fun e w' => e = .returned (.tuple #[.int .i64 (numV s), .bool (numOk s)]) ∧ Below w.heap.size w w' := by
  unfold maxLen at hs
  go_enter Try.func49, Try.ntmps49
  go_wp2
  go_loopw [4] (fun v wr => ∃ (pos n : Nat), wr = w.iter s pos ∧ pos ≤ s.size ∧ n ≤ 9999 ∧ v = .int .i64 n ∧ Hid (pos = 0 → n = 0) ∧ Hid (numGo n (decide (pos = 0)) (s.data.toList.drop pos) = numGo 0 true s.data.toList)) (fun _ wr => s.size - wr.iterPos w.heap.size)
  case atStart => exact ⟨0, 0, rfl, Nat.zero_le _, by omega, rfl, fun _ => rfl, rfl⟩
  case round =>
    obtain ⟨pos, n, rfl, hple, hn, rfl, HZ, HR⟩ := hrel
    by_cases hp : pos < s.size
    · have HD := Lib.hid (drop_cons s pos hp)
      by_cases ha : (s[pos]'hp).toNat < 128
      · have hnx : ∀ ty, (Instr.next (.pointer (some ⟨w.heap.size, 0, none⟩)) true ty).run Try.prog (w.iter s pos) = _ := fun ty => run_next_ascii w s pos ty hp ha
        by_cases hd : digB (s[pos]'hp).toNat = true
        · have HG := Lib.hid hd
          obtain ⟨hlo, hhi⟩ := digB_range hd
          clear hd
          by_cases h0 : pos = 0
          · subst h0
            by_cases h3 : n * 10 + ((s[0]'hp).toNat - 48) ≤ 9999
            · have h3i : (n : Int) * 10 + (((s[0]'hp).toNat : Int) - 48) ≤ 9999 := by omega
              go_wp2_with (go_at_call 58; refine (digit_is _ true HG.out _).mono ?_; rintro e w' ⟨rfl, rfl⟩)
              go_roundw
              case rel => exact ⟨0 + 1, n * 10 + ((s[0]'hp).toNat - 48), rfl, by omega, h3, by go_num, fun h => by omega, by rw [← HR.out, HD.out, numGo_on _ _ _ _ HG.out (by simp) h3]; rfl⟩
              case measure => simp; omega
            · have h3i : 9999 < (n : Int) * 10 + (((s[0]'hp).toNat : Int) - 48) := by omega
              go_wp2_with (go_at_call 58; refine (digit_is _ true HG.out _).mono ?_; rintro e w' ⟨rfl, rfl⟩)
              go_ret2
              have HN : numGo 0 true s.data.toList = none := by rw [← HR.out, HD.out, numGo_big _ _ _ _ h3]
              exact ⟨ret_num (numV_none HN).symm (numOk_none HN).symm, below_iter _ _ _⟩
          · have hpos : 0 < pos := by omega
            by_cases hz : n = 0
            · have hzb : ((n : Int) == 0) = true := by simp [hz]
              have HZ2 := Lib.hid hz
              clear hz
              go_wp2_with (go_at_call 58; refine (digit_is _ true HG.out _).mono ?_; rintro e w' ⟨rfl, rfl⟩)
              go_ret2
              have HN : numGo 0 true s.data.toList = none := by rw [← HR.out, HD.out, HZ2.out, decide_eq_false (by omega), numGo_zero]
              exact ⟨ret_num (numV_none HN).symm (numOk_none HN).symm, below_iter _ _ _⟩
            · have hzb : ((n : Int) == 0) = false := by simpa using hz
              by_cases h3 : n * 10 + ((s[pos]'hp).toNat - 48) ≤ 9999
              · have h3i : (n : Int) * 10 + (((s[pos]'hp).toNat : Int) - 48) ≤ 9999 := by omega
                go_wp2_with (go_at_call 58; refine (digit_is _ true HG.out _).mono ?_; rintro e w' ⟨rfl, rfl⟩)
                go_roundw
                case rel => exact ⟨pos + 1, n * 10 + ((s[pos]'hp).toNat - 48), rfl, by omega, h3, by go_num, fun h => by omega, by rw [← HR.out, HD.out, numGo_on _ _ _ _ HG.out (fun h => hz h.2) h3]; rfl⟩
                case measure => simp; omega
              · have h3i : 9999 < (n : Int) * 10 + (((s[pos]'hp).toNat : Int) - 48) := by omega
                go_wp2_with (go_at_call 58; refine (digit_is _ true HG.out _).mono ?_; rintro e w' ⟨rfl, rfl⟩)
                go_ret2
                have HN : numGo 0 true s.data.toList = none := by rw [← HR.out, HD.out, numGo_big _ _ _ _ h3]
                exact ⟨ret_num (numV_none HN).symm (numOk_none HN).symm, below_iter _ _ _⟩
        · have HG := Lib.hid (Bool.eq_false_iff.2 hd)
          clear hd
          go_wp2_with (go_at_call 58; refine (digit_is _ false HG.out _).mono ?_; rintro e w' ⟨rfl, rfl⟩)
          go_ret2
          have HN : numGo 0 true s.data.toList = none := by rw [← HR.out, HD.out, numGo_bad _ _ _ _ HG.out]
          exact ⟨ret_num (numV_none HN).symm (numOk_none HN).symm, below_iter _ _ _⟩
      · have hnx : ∀ ty, (Instr.next (.pointer (some ⟨w.heap.size, 0, none⟩)) true ty).run Try.prog (w.iter s pos) = _ := fun ty => run_next_any w s pos ty hp
        have hhi := (decode_high s pos hp (by omega)).1
        have HG := Lib.hid (digB_hi _ hhi)
        go_wp2_with (go_at_call 58; refine (digit_is _ false HG.out _).mono ?_; rintro e w' ⟨rfl, rfl⟩)
        go_ret2
        have HN : numGo 0 true s.data.toList = none := by rw [← HR.out, HD.out, numGo_bad _ _ _ _ (digB_hi8 _ (by omega))]
        exact ⟨ret_num (numV_none HN).symm (numOk_none HN).symm, below_iter _ _ _⟩
    · have hnx : ∀ ty, (Instr.next (.pointer (some ⟨w.heap.size, 0, none⟩)) true ty).run Try.prog (w.iter s pos) = _ := fun ty => run_next_end w s pos ty hp
      have HD := Lib.hid (drop_end s pos hp)
      by_cases he : s.size = 0
      · have hes : s = ⟨#[]⟩ := by
          apply ByteArray.ext
          exact Array.eq_empty_of_size_eq_zero he
        subst hes
        obtain rfl : n = 0 := HZ.out (Nat.le_zero.1 hple)
        go_wp2
        go_ret2
        exact ⟨ret_num (by decide) (by decide), below_iter _ _ _⟩
      · have hse : (!s.toList.isEmpty) = true := by
          rw [Lib.toList_data, Bool.not_eq_true', List.isEmpty_eq_false_iff]; intro h; apply he; have := congrArg List.length h; simpa using this
        have HSE := Lib.hid hse
        clear hse
        go_wp2
        go_ret2
        have HN : numGo 0 true s.data.toList = some n := by rw [← HR.out, HD.out, decide_eq_false (by omega), numGo]; rfl
        exact ⟨ret_num (numV_some HN).symm (HSE.out.trans (numOk_some HN).symm), below_iter _ _ _⟩

theorem foldV_snoc (l : List UInt8) (c : UInt8) (n : Nat) : foldV n (l ++ [c]) = foldV n l * 10 + (c.toNat - 48) := by rw [foldV_append]; rfl
theorem take_snoc (s : ByteArray) (k : Nat) (h : k < s.size) : s.data.toList.take (k + 1) = s.data.toList.take k ++ [s[k]] := by
  rw [List.take_succ_eq_append_getElem (by simpa using h)]; rfl
theorem allDig_snoc (l : List UInt8) (c : UInt8) : allDig (l ++ [c]) = (allDig l && digB c.toNat) := by rw [allDig_append]; unfold allDig; rw [List.all_cons, List.all_nil, Bool.and_true]
theorem allDig_bad (s : ByteArray) (k : Nat) (h : k < s.size) (hd : digB s[k].toNat = false) : allDig s.data.toList = false := by
  have e : s.data.toList = s.data.toList.take k ++ s[k] :: s.data.toList.drop (k + 1) := by rw [← drop_cons s k h, List.take_append_drop]
  rw [e, allDig_append]
  have : allDig (s[k] :: s.data.toList.drop (k + 1)) = false := by unfold allDig; rw [List.all_cons, hd]; rfl
  rw [this, Bool.and_false]
theorem len_data (s : ByteArray) : s.data.toList.length = s.size := by simp
theorem head_data (s : ByteArray) (h : 0 < s.size) : s.data.toList.head? = some s[0] := by
  have := drop_cons s 0 h
  rw [List.drop_zero] at this
  rw [this]; rfl
theorem ten_le {k : Nat} (h : k ≤ 8) : 10 ^ k ≤ 100000000 := Nat.pow_le_pow_right (by omega) h

set_option maxHeartbeats 2000000 in
theorem rnumber_any (s : ByteArray) (w : World) (hs : s.size ≤ maxLen) :
    Calls Try.prog 53 #[.string s] w fun e w' => e = .returned (.tuple #[.int .i64 (numV s), .bool (numOk s)]) ∧ w = w' := by
  unfold maxLen at hs
  have HREF := Lib.hid (numGo_ref s.data.toList)
  by_cases h0 : s.size < 1
  · have HN : numGo 0 true s.data.toList = none := by rw [HREF.out, numRef, if_pos (Or.inl (by rw [len_data]; exact h0))]
    have HV := Lib.hid (numV_none HN)
    have HO := Lib.hid (numOk_none HN)
    clear HN
    go_enter Try.func53, Try.ntmps53
    go_wp2
    go_ret2
    exact ⟨ret_num HV.out.symm HO.out.symm, rfl⟩
  · have hp0 : 0 < s.size := by omega
    by_cases h9 : s.size ≤ 9
    · by_cases hz : 1 < s.size ∧ (s[0].toNat : Int) = 48
      · have HN : numGo 0 true s.data.toList = none := by
          rw [HREF.out, numRef, if_pos (Or.inr (Or.inr ⟨by rw [len_data]; exact hz.1, by rw [head_data s hp0, show s[0] = 48 from UInt8.toNat_inj.1 (by have := hz.2; show s[0].toNat = 48; omega)]⟩))]
        have HV := Lib.hid (numV_none HN)
        have HO := Lib.hid (numOk_none HN)
        clear HN
        have hb : ((s[0].toNat : Int) == 48) = true := by simp [hz.2]
        have h1 : 1 < s.size := hz.1
        clear hz
        go_enter Try.func53, Try.ntmps53
        go_wp2
        go_ret2
        exact ⟨ret_num HV.out.symm HO.out.symm, rfl⟩
      · have HN : Hid (numGo 0 true s.data.toList = if allDig s.data.toList = true ∧ foldV 0 s.data.toList ≤ 9999 then some (foldV 0 s.data.toList) else none) := by
          show _ = _
          rw [HREF.out, numRef, if_neg]
          rintro (h | h | h)
          · rw [len_data] at h; omega
          · rw [len_data] at h; omega
          · rw [len_data, head_data s hp0] at h
            refine hz ⟨h.1, ?_⟩
            have := Option.some.inj h.2
            rw [this]; rfl
        have hb : 1 < s.size → ((s[0].toNat : Int) == 48) = false := fun h => beq_int_false (fun e => hz ⟨h, e⟩)
        clear hz
        by_cases h1 : 1 < s.size
        · have hb1 := hb h1
          clear hb
          go_enter Try.func53, Try.ntmps53
          go_wp2
          go_loop [4, 5] (fun v i => ∃ k n : Nat, k ≤ s.size ∧ v = .int .i64 n ∧ i = .int .i64 k ∧ Hid (n < 10 ^ k) ∧ Hid (n = foldV 0 (s.data.toList.take k)) ∧ Hid (allDig (s.data.toList.take k) = true)) (fun _ i => s.size - (intOf i).toNat)
          case atStart => exact ⟨0, 0, Nat.zero_le _, rfl, rfl, by show 0 < 10 ^ 0; omega, rfl, rfl⟩
          case round =>
            obtain ⟨k, n, hk, rfl, rfl, HP, HF, HA⟩ := hrel
            by_cases hp : k < s.size
            · by_cases hd : digB s[k].toNat = true
              · have HG := Lib.hid hd
                obtain ⟨hlo, hhi⟩ := digB_range hd
                clear hd
                have hn8 : n ≤ 100000000 := Nat.le_of_lt (Nat.lt_of_lt_of_le HP.out (ten_le (by omega)))
                go_wp2_with (go_at_call 59; refine (rdigit_is _ true HG.out _).mono ?_; rintro e w' ⟨rfl, rfl⟩)
                go_round
                case rel =>
                  refine ⟨k + 1, n * 10 + (s[k].toNat - 48), by omega, by go_num, by go_num, ?_, ?_, ?_⟩
                  · have := HP.out
                    show _ < 10 ^ (k + 1)
                    rw [Nat.pow_succ]; omega
                  · show _ = _
                    rw [take_snoc s k hp, foldV_snoc, ← HF.out]
                  · show _ = _
                    rw [take_snoc s k hp, allDig_snoc, HA.out, HG.out]; rfl
                case measure => simp [intOf]; omega
              · have HG := Lib.hid (Bool.eq_false_iff.2 hd)
                clear hd
                go_wp2_with (go_at_call 59; refine (rdigit_is _ false HG.out _).mono ?_; rintro e w' ⟨rfl, rfl⟩)
                go_ret2
                have HM : numGo 0 true s.data.toList = none := by rw [HN.out, allDig_bad s k hp HG.out]; simp
                exact ⟨ret_num (numV_none HM).symm (numOk_none HM).symm, rfl⟩
            · have HT : Hid (s.data.toList.take k = s.data.toList) := List.take_of_length_le (by rw [len_data]; omega)
              by_cases h4 : n ≤ 9999
              · go_wp2
                go_ret2
                have HM : numGo 0 true s.data.toList = some n := by
                  have e1 := HF.out
                  have e2 := HA.out
                  rw [HT.out] at e1 e2
                  rw [HN.out, e2, ← e1, if_pos ⟨rfl, h4⟩]
                exact ⟨ret_num (numV_some HM).symm (numOk_some HM).symm, rfl⟩
              · go_wp2
                go_ret2
                have HM : numGo 0 true s.data.toList = none := by
                  have e1 := HF.out
                  rw [HT.out] at e1
                  rw [HN.out, ← e1, if_neg (fun h => h4 h.2)]
                exact ⟨ret_num (numV_none HM).symm (numOk_none HM).symm, rfl⟩
        · clear hb
          go_enter Try.func53, Try.ntmps53
          go_wp2
          go_loop [4, 5] (fun v i => ∃ k n : Nat, k ≤ s.size ∧ v = .int .i64 n ∧ i = .int .i64 k ∧ Hid (n < 10 ^ k) ∧ Hid (n = foldV 0 (s.data.toList.take k)) ∧ Hid (allDig (s.data.toList.take k) = true)) (fun _ i => s.size - (intOf i).toNat)
          case atStart => exact ⟨0, 0, Nat.zero_le _, rfl, rfl, by show 0 < 10 ^ 0; omega, rfl, rfl⟩
          case round =>
            obtain ⟨k, n, hk, rfl, rfl, HP, HF, HA⟩ := hrel
            by_cases hp : k < s.size
            · by_cases hd : digB s[k].toNat = true
              · have HG := Lib.hid hd
                obtain ⟨hlo, hhi⟩ := digB_range hd
                clear hd
                have hn8 : n ≤ 100000000 := Nat.le_of_lt (Nat.lt_of_lt_of_le HP.out (ten_le (by omega)))
                go_wp2_with (go_at_call 59; refine (rdigit_is _ true HG.out _).mono ?_; rintro e w' ⟨rfl, rfl⟩)
                go_round
                case rel =>
                  refine ⟨k + 1, n * 10 + (s[k].toNat - 48), by omega, by go_num, by go_num, ?_, ?_, ?_⟩
                  · have := HP.out
                    show _ < 10 ^ (k + 1)
                    rw [Nat.pow_succ]; omega
                  · show _ = _
                    rw [take_snoc s k hp, foldV_snoc, ← HF.out]
                  · show _ = _
                    rw [take_snoc s k hp, allDig_snoc, HA.out, HG.out]; rfl
                case measure => simp [intOf]; omega
              · have HG := Lib.hid (Bool.eq_false_iff.2 hd)
                clear hd
                go_wp2_with (go_at_call 59; refine (rdigit_is _ false HG.out _).mono ?_; rintro e w' ⟨rfl, rfl⟩)
                go_ret2
                have HM : numGo 0 true s.data.toList = none := by rw [HN.out, allDig_bad s k hp HG.out]; simp
                exact ⟨ret_num (numV_none HM).symm (numOk_none HM).symm, rfl⟩
            · have HT : Hid (s.data.toList.take k = s.data.toList) := List.take_of_length_le (by rw [len_data]; omega)
              by_cases h4 : n ≤ 9999
              · go_wp2
                go_ret2
                have HM : numGo 0 true s.data.toList = some n := by
                  have e1 := HF.out
                  have e2 := HA.out
                  rw [HT.out] at e1 e2
                  rw [HN.out, e2, ← e1, if_pos ⟨rfl, h4⟩]
                exact ⟨ret_num (numV_some HM).symm (numOk_some HM).symm, rfl⟩
              · go_wp2
                go_ret2
                have HM : numGo 0 true s.data.toList = none := by
                  have e1 := HF.out
                  rw [HT.out] at e1
                  rw [HN.out, ← e1, if_neg (fun h => h4 h.2)]
                exact ⟨ret_num (numV_none HM).symm (numOk_none HM).symm, rfl⟩
    · have HN : numGo 0 true s.data.toList = none := by rw [HREF.out, numRef, if_pos (Or.inr (Or.inl (by rw [len_data]; omega)))]
      have HV := Lib.hid (numV_none HN)
      have HO := Lib.hid (numOk_none HN)
      clear HN
      go_enter Try.func53, Try.ntmps53
      go_wp2
      go_ret2
      exact ⟨ret_num HV.out.symm HO.out.symm, rfl⟩
end Go.Proofs.Ytndjdmbbndcohaa
