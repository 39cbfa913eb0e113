/-
  Package ident's Number and the document's own answer's Number: both return, for every string and in every world, the number that numB finds, and whether it finds one. Conditions: none.
-/
import Derived.Test.YtndjdmbbndcohaaDoorBase
import Derived.Test.YtndjdmbbndcohaaDoorPlain2
import Derived.Lib.Strings
namespace Go.Proofs.YtndjdmbbndcohaaDoor
open Go.RowKit

theorem ret_num {a b : Int} {p q : Bool} (h : a = b) (h2 : p = q) : Ending.returned (.tuple #[.int .i64 a, .bool p]) = .returned (.tuple #[.int .i64 b, .bool q]) := by rw [h, h2]
theorem numV_none {s : ByteArray} (h : numGo 0 true s.data.toList = none) : numV s = 0 := by unfold numV numB; rw [h]; rfl
theorem numOk_none {s : ByteArray} (h : numGo 0 true s.data.toList = none) : numOk s = false := by unfold numOk numB; rw [h]; rfl
theorem numV_some {s : ByteArray} {n : Nat} (h : numGo 0 true s.data.toList = some n) : numV s = n := by unfold numV numB; rw [h]; rfl
theorem numOk_some {s : ByteArray} {n : Nat} (h : numGo 0 true s.data.toList = some n) : numOk s = true := by unfold numOk numB; rw [h]; rfl
theorem digB_range {n : Nat} (h : digB n = true) : 48 ≤ n ∧ n ≤ 57 := by unfold digB at h; simp at h; omega

set_option maxHeartbeats 2000000 in
theorem number_any (s : ByteArray) (w : World) (hs : s.size ≤ maxLen) :
    Calls Tryd.prog 34 #[.string s] w fun e w' => e = .returned (.tuple #[.int .i64 (numV s), .bool (numOk s)]) ∧ Below w.heap.size w w' := by
  unfold maxLen at hs
  go_enter Tryd.func34, Tryd.ntmps34
  go_wp2
  go_loopw [4] (fun v wr => ∃ (pos n : Nat), wr = w.iter s pos ∧ pos ≤ s.size ∧ n ≤ 9999 ∧ v = .int .i64 n ∧ Hid (pos = 0 → n = 0) ∧ Hid (numGo n (decide (pos = 0)) (s.data.toList.drop pos) = numGo 0 true s.data.toList)) (fun _ wr => s.size - wr.iterPos w.heap.size)
  case atStart => exact ⟨0, 0, rfl, Nat.zero_le _, by omega, rfl, fun _ => rfl, rfl⟩
  case round =>
    obtain ⟨pos, n, rfl, hple, hn, rfl, HZ, HR⟩ := hrel
    by_cases hp : pos < s.size
    · have HD := Lib.hid (drop_cons s pos hp)
      by_cases ha : (s[pos]'hp).toNat < 128
      · have hnx : ∀ ty, (Instr.next (.pointer (some ⟨w.heap.size, 0, none⟩)) true ty).run Tryd.prog (w.iter s pos) = _ := fun ty => run_next_ascii w s pos ty hp ha
        by_cases hd : digB (s[pos]'hp).toNat = true
        · have HG := Lib.hid hd
          obtain ⟨hlo, hhi⟩ := digB_range hd
          clear hd
          by_cases h0 : pos = 0
          · subst h0
            by_cases h3 : n * 10 + ((s[0]'hp).toNat - 48) ≤ 9999
            · have h3i : (n : Int) * 10 + (((s[0]'hp).toNat : Int) - 48) ≤ 9999 := by omega
              go_wp2_with (go_at_call 42; refine (digit_is _ true HG.out _).mono ?_; rintro e w' ⟨rfl, rfl⟩)
              go_roundw
              case rel => exact ⟨0 + 1, n * 10 + ((s[0]'hp).toNat - 48), rfl, by omega, h3, by go_num, fun h => by omega, by rw [← HR.out, HD.out, numGo_on _ _ _ _ HG.out (by simp) h3]; rfl⟩
              case measure => simp; omega
            · have h3i : 9999 < (n : Int) * 10 + (((s[0]'hp).toNat : Int) - 48) := by omega
              go_wp2_with (go_at_call 42; refine (digit_is _ true HG.out _).mono ?_; rintro e w' ⟨rfl, rfl⟩)
              go_ret2
              have HN : numGo 0 true s.data.toList = none := by rw [← HR.out, HD.out, numGo_big _ _ _ _ h3]
              exact ⟨ret_num (numV_none HN).symm (numOk_none HN).symm, below_iter _ _ _⟩
          · have hpos : 0 < pos := by omega
            by_cases hz : n = 0
            · have hzb : ((n : Int) == 0) = true := by simp [hz]
              have HZ2 := Lib.hid hz
              clear hz
              go_wp2_with (go_at_call 42; refine (digit_is _ true HG.out _).mono ?_; rintro e w' ⟨rfl, rfl⟩)
              go_ret2
              have HN : numGo 0 true s.data.toList = none := by rw [← HR.out, HD.out, HZ2.out, decide_eq_false (by omega), numGo_zero]
              exact ⟨ret_num (numV_none HN).symm (numOk_none HN).symm, below_iter _ _ _⟩
            · have hzb : ((n : Int) == 0) = false := by simpa using hz
              by_cases h3 : n * 10 + ((s[pos]'hp).toNat - 48) ≤ 9999
              · have h3i : (n : Int) * 10 + (((s[pos]'hp).toNat : Int) - 48) ≤ 9999 := by omega
                go_wp2_with (go_at_call 42; refine (digit_is _ true HG.out _).mono ?_; rintro e w' ⟨rfl, rfl⟩)
                go_roundw
                case rel => exact ⟨pos + 1, n * 10 + ((s[pos]'hp).toNat - 48), rfl, by omega, h3, by go_num, fun h => by omega, by rw [← HR.out, HD.out, numGo_on _ _ _ _ HG.out (fun h => hz h.2) h3]; rfl⟩
                case measure => simp; omega
              · have h3i : 9999 < (n : Int) * 10 + (((s[pos]'hp).toNat : Int) - 48) := by omega
                go_wp2_with (go_at_call 42; refine (digit_is _ true HG.out _).mono ?_; rintro e w' ⟨rfl, rfl⟩)
                go_ret2
                have HN : numGo 0 true s.data.toList = none := by rw [← HR.out, HD.out, numGo_big _ _ _ _ h3]
                exact ⟨ret_num (numV_none HN).symm (numOk_none HN).symm, below_iter _ _ _⟩
        · have HG := Lib.hid (Bool.eq_false_iff.2 hd)
          clear hd
          go_wp2_with (go_at_call 42; refine (digit_is _ false HG.out _).mono ?_; rintro e w' ⟨rfl, rfl⟩)
          go_ret2
          have HN : numGo 0 true s.data.toList = none := by rw [← HR.out, HD.out, numGo_bad _ _ _ _ HG.out]
          exact ⟨ret_num (numV_none HN).symm (numOk_none HN).symm, below_iter _ _ _⟩
      · have hnx : ∀ ty, (Instr.next (.pointer (some ⟨w.heap.size, 0, none⟩)) true ty).run Tryd.prog (w.iter s pos) = _ := fun ty => run_next_any w s pos ty hp
        have hhi := (decode_high s pos hp (by omega)).1
        have HG := Lib.hid (digB_hi _ hhi)
        go_wp2_with (go_at_call 42; refine (digit_is _ false HG.out _).mono ?_; rintro e w' ⟨rfl, rfl⟩)
        go_ret2
        have HN : numGo 0 true s.data.toList = none := by rw [← HR.out, HD.out, numGo_bad _ _ _ _ (digB_hi8 _ (by omega))]
        exact ⟨ret_num (numV_none HN).symm (numOk_none HN).symm, below_iter _ _ _⟩
    · have hnx : ∀ ty, (Instr.next (.pointer (some ⟨w.heap.size, 0, none⟩)) true ty).run Tryd.prog (w.iter s pos) = _ := fun ty => run_next_end w s pos ty hp
      have HD := Lib.hid (drop_end s pos hp)
      by_cases he : s.size = 0
      · have hes : s = ⟨#[]⟩ := by
          apply ByteArray.ext
          exact Array.eq_empty_of_size_eq_zero he
        subst hes
        obtain rfl : n = 0 := HZ.out (Nat.le_zero.1 hple)
        go_wp2
        go_ret2
        exact ⟨ret_num (by decide) (by decide), below_iter _ _ _⟩
      · have hse : (!s.toList.isEmpty) = true := by
          rw [Lib.toList_data, Bool.not_eq_true', List.isEmpty_eq_false_iff]; intro h; apply he; have := congrArg List.length h; simpa using this
        have HSE := Lib.hid hse
        clear hse
        go_wp2
        go_ret2
        have HN : numGo 0 true s.data.toList = some n := by rw [← HR.out, HD.out, decide_eq_false (by omega), numGo]; rfl
        exact ⟨ret_num (numV_some HN).symm (HSE.out.trans (numOk_some HN).symm), below_iter _ _ _⟩

theorem foldV_snoc (l : List UInt8) (c : UInt8) (n : Nat) : foldV n (l ++ [c]) = foldV n l * 10 + (c.toNat - 48) := by rw [foldV_append]; rfl
theorem take_snoc (s : ByteArray) (k : Nat) (h : k < s.size) : s.data.toList.take (k + 1) = s.data.toList.take k ++ [s[k]] := by
  rw [List.take_succ_eq_append_getElem (by simpa using h)]; rfl
theorem allDig_snoc (l : List UInt8) (c : UInt8) : allDig (l ++ [c]) = (allDig l && digB c.toNat) := by rw [allDig_append]; unfold allDig; rw [List.all_cons, List.all_nil, Bool.and_true]
theorem allDig_bad (s : ByteArray) (k : Nat) (h : k < s.size) (hd : digB s[k].toNat = false) : allDig s.data.toList = false := by
  have e : s.data.toList = s.data.toList.take k ++ s[k] :: s.data.toList.drop (k + 1) := by rw [← drop_cons s k h, List.take_append_drop]
  rw [e, allDig_append]
  have : allDig (s[k] :: s.data.toList.drop (k + 1)) = false := by unfold allDig; rw [List.all_cons, hd]; rfl
  rw [this, Bool.and_false]
theorem len_data (s : ByteArray) : s.data.toList.length = s.size := by simp
theorem head_data (s : ByteArray) (h : 0 < s.size) : s.data.toList.head? = some s[0] := by
  have := drop_cons s 0 h
  rw [List.drop_zero] at this
  rw [this]; rfl
theorem ten_le {k : Nat} (h : k ≤ 8) : 10 ^ k ≤ 100000000 := Nat.pow_le_pow_right (by omega) h

end Go.Proofs.YtndjdmbbndcohaaDoor
