/-
  Package ident's Digits and the document's own answer's Digits: both return, for every int, its decimal digits, preceded by a minus sign if it is negative. Condition: the library's table of powers of ten reads as it is laid.
-/
import Derived.Test.YtdkdghbmeoeliaaDoorNum
import Derived.Test.YtdkdghbmeoeliaaDoorShelf
import Derived.Lib.AppendIntMem
import Derived.Lib.ItoaLen
import Derived.WalkKit
namespace Go.Proofs.YtdkdghbmeoeliaaDoor
open Go.RowKit

def HasTab (w : World) : Prop := Lib.TabBelow Tryd.prog w.heap.size w "internal/strconv.uint64pow10" .u64 Lib.pow10Tab
theorem HasTab.on {w w' : World} (h : HasTab w) (hb : Below w.heap.size w w') : HasTab w' := fun w2 hb2 => h w2 (hb.trans (hb2.mono hb.size))

def digS (n : Int) : ByteArray := ⟨(Lib.itoa n).toArray⟩

set_option maxHeartbeats 1000000 in
theorem digits_any (n : Int) (h0 : -9223372036854775808 ≤ n) (h1 : n ≤ 9223372036854775807) (w : World) (ht : HasTab w) :
    Calls Tryd.prog 40 #[.int .i64 n] w fun e w' => e = .returned (.string (digS n)) ∧ Below w.heap.size w w' := by
  have H := Lib.hid ht
  clear ht
  go_enter Tryd.func40, Tryd.ntmps40
  go_wp2_with (go_at_call 57; refine (Tryd.strconv_Itoa n h0 h1 _ H.out.here).mono ?_; rintro e w' ⟨rfl, k, os, rfl⟩)
  go_ret
  exact ⟨rfl, Lib.below_grow _ _ (Nat.le_refl _) _ _⟩

theorem ret_str {a b : ByteArray} (h : a = b) : Ending.returned (.string a) = .returned (.string b) := by rw [h]
theorem of_list {t : ByteArray} {l : List UInt8} (h : l = t.data.toList) : t = ⟨l.toArray⟩ := by subst h; rfl
def one (x : Int) : ByteArray := ⟨#[UInt8.ofNat x.toNat]⟩
theorem one_list (n : Nat) : (one (48 + (n : Int) % 10)).data.toList = [UInt8.ofNat (48 + n % 10)] := by
  unfold one
  rw [show (48 + (n : Int) % 10).toNat = 48 + n % 10 from by omega]
theorem conv1 (w : World) (x : Int) : (convert 73 9 (.slice (some ⟨w.heap.size, 0, none⟩) 1 1)).run Tryd.prog (w.alloc (.cells #[.int .u8 x] 5)) = .ok (.string (one x)) (w.alloc (.cells #[.int .u8 x] 5)) := by
  refine (run_convert_bytes_arg (P := Tryd.prog) _ 73 5 Tryd.underlying73 Tryd.underlying5 w.heap.size 0 1 1 [x] rfl ?_ 9 Tryd.underlying9).trans ?_
  · intro i hi
    obtain rfl : i = 0 := by omega
    simp
  · rfl

theorem dec_start (n : Nat) : Lib.decDigits n = (if n < 10 then [] else Lib.decDigits (n / 10)) ++ [UInt8.ofNat (48 + n % 10)] := by
  rw [Lib.decDigits]
  by_cases h : n < 10
  · rw [dif_pos h, if_pos h, Nat.mod_eq_of_lt h]; rfl
  · rw [dif_neg h, if_neg h]
def decS (n : Nat) : ByteArray := ⟨(Lib.decDigits n).toArray⟩
set_option maxHeartbeats 1000000 in
theorem whole_any (n : Nat) (hn : n ≤ 18446744073709551615) (w : World) :
    Calls Tryd.prog 76 #[.int .u64 n] w fun e w' => e = .returned (.string (decS n)) ∧ Below w.heap.size w w' := by
  have hcv := fun (w : World) (x : Int) => conv1 w x
  go_enter Tryd.func76, Tryd.ntmps76
  go_wp2
  go_loopw [0, 3] (fun v s wr => ∃ (m : Nat) (t : ByteArray), v = .int .u64 m ∧ s = .string t ∧ m ≤ 18446744073709551615 ∧ Below w.heap.size w wr ∧ t.size ≤ 20 ∧ Hid (Lib.decDigits n = (if m < 10 then [] else Lib.decDigits (m / 10)) ++ t.data.toList)) (fun v _ _ => (intOf v).toNat)
  case atStart => exact ⟨n, _, rfl, rfl, hn, (Below.refl _ w).alloc (Nat.le_refl _) _, by show 1 ≤ 20; omega, by show _ = _; rw [one_list]; exact dec_start n⟩
  case round =>
    obtain ⟨m, t, rfl, rfl, hm, hb, ht, HR⟩ := hrel
    have hsz := hb.size
    by_cases h9 : 9 < m
    · have hos : (one (48 + (m : Int) / 10 % 10)).size ≤ 1 := Nat.le_of_eq rfl
      go_wp2
      go_roundw
      case rel =>
        have HE : Lib.decDigits n = (if m / 10 < 10 then [] else Lib.decDigits (m / 10 / 10)) ++ (one (48 + ((m / 10 : Nat) : Int) % 10) ++ t).data.toList := by
          rw [HR.out, if_neg (by omega), dec_start (m / 10), ByteArray.data_append, Array.toList_append, one_list, List.append_assoc]
        rw [show ((m / 10 : Nat) : Int) = (m : Int) / 10 from by omega] at HE
        refine ⟨m / 10, _, by go_num, rfl, by omega, hb.alloc hsz _, ?_, HE⟩
        have hl := congrArg List.length HE
        rw [Lib.decDigits_length, List.length_append] at hl
        have := Lib.nDigits_le20 n (by omega)
        have hz : (one (48 + (m : Int) / 10 % 10) ++ t).data.toList.length = (one (48 + (m : Int) / 10 % 10) ++ t).size := by simp
        omega
      case measure => simp [intOf]; omega
    · go_wp2
      go_ret
      have HE := HR.out
      rw [if_pos (by omega), List.nil_append] at HE
      exact ⟨ret_str (of_list HE), hb⟩

set_option maxHeartbeats 1000000 in
theorem rdigits_any (n : Int) (h0 : -9223372036854775808 ≤ n) (h1 : n ≤ 9223372036854775807) (w : World) :
    Calls Tryd.prog 65 #[.int .i64 n] w fun e w' => e = .returned (.string (digS n)) ∧ Below w.heap.size w w' := by
  by_cases hn : n < 0
  · obtain ⟨u, hu1, rfl⟩ : ∃ u : Nat, 1 ≤ u ∧ n = -(u : Int) := ⟨n.natAbs, by omega, by omega⟩
    go_enter Tryd.func65, Tryd.ntmps65
    go_wp2_with fail
    rw [show (-(-(u : Int) + 1) + 1) = (u : Int) from by omega]
    refine (whole_any u (by omega) _).mono ?_
    rintro e w' ⟨rfl, hb⟩
    have hl : (decS u).size ≤ 20 := by
      show (Lib.decDigits u).toArray.size ≤ 20
      rw [List.size_toArray, Lib.decDigits_length]
      exact Lib.nDigits_le20 u (by omega)
    go_wp2
    go_ret
    exact ⟨ret_str (by unfold decS digS; rw [Lib.itoa_neg u (by omega)]; apply ByteArray.ext; simp), hb⟩
  · obtain ⟨u, rfl⟩ : ∃ u : Nat, n = (u : Int) := ⟨n.toNat, by omega⟩
    go_enter Tryd.func65, Tryd.ntmps65
    go_wp2_with (go_at_call 76; refine (whole_any u (by omega) _).mono ?_; rintro e w' ⟨rfl, hb⟩)
    go_ret
    exact ⟨ret_str (by unfold decS digS; rw [Lib.itoa_nonneg]), hb⟩
end Go.Proofs.YtdkdghbmeoeliaaDoor
