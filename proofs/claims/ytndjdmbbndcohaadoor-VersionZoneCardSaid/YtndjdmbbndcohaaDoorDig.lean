/-
  Package ident's Digits and the document's own answer's Digits: both return, for every int, its decimal digits, preceded by a minus sign if it is negative. Condition: the library's table of powers of ten reads as it is laid.
-/
import Derived.Test.YtndjdmbbndcohaaDoorNum
import Derived.Test.YtndjdmbbndcohaaDoorShelf
import Derived.Lib.AppendIntMem
import Derived.Lib.ItoaLen
import Derived.WalkKit
namespace Go.Proofs.YtndjdmbbndcohaaDoor
open Go.RowKit

def HasTab (w : World) : Prop := Lib.TabBelow Tryd.prog w.heap.size w "internal/strconv.uint64pow10" .u64 Lib.pow10Tab
theorem HasTab.on {w w' : World} (h : HasTab w) (hb : Below w.heap.size w w') : HasTab w' := fun w2 hb2 => h w2 (hb.trans (hb2.mono hb.size))

def digS (n : Int) : ByteArray := ⟨(Lib.itoa n).toArray⟩

set_option maxHeartbeats 1000000 in
theorem digits_any (n : Int) (h0 : -9223372036854775808 ≤ n) (h1 : n ≤ 9223372036854775807) (w : World) (ht : HasTab w) :
    Calls Tryd.prog 30 #[.int .i64 n] w fun e w' => e = .returned (.string (digS n)) ∧ Below w.heap.size w w' := by
  have H := Lib.hid ht
  clear ht
  go_enter Tryd.func30, Tryd.ntmps30
  go_wp2_with (go_at_call 38; refine (Tryd.strconv_Itoa n h0 h1 _ H.out.here).mono ?_; rintro e w' ⟨rfl, k, os, rfl⟩)
  go_ret
  exact ⟨rfl, Lib.below_grow _ _ (Nat.le_refl _) _ _⟩

theorem ret_str {a b : ByteArray} (h : a = b) : Ending.returned (.string a) = .returned (.string b) := by rw [h]
theorem of_list {t : ByteArray} {l : List UInt8} (h : l = t.data.toList) : t = ⟨l.toArray⟩ := by subst h; rfl
def one (x : Int) : ByteArray := ⟨#[UInt8.ofNat x.toNat]⟩
theorem one_list (n : Nat) : (one (48 + (n : Int) % 10)).data.toList = [UInt8.ofNat (48 + n % 10)] := by
  unfold one
  rw [show (48 + (n : Int) % 10).toNat = 48 + n % 10 from by omega]
theorem conv1 (w : World) (x : Int) : (convert 67 9 (.slice (some ⟨w.heap.size, 0, none⟩) 1 1)).run Tryd.prog (w.alloc (.cells #[.int .u8 x] 5)) = .ok (.string (one x)) (w.alloc (.cells #[.int .u8 x] 5)) := by
  refine (run_convert_bytes_arg (P := Tryd.prog) _ 67 5 Tryd.underlying67 Tryd.underlying5 w.heap.size 0 1 1 [x] rfl ?_ 9 Tryd.underlying9).trans ?_
  · intro i hi
    obtain rfl : i = 0 := by omega
    simp
  · rfl

theorem dec_start (n : Nat) : Lib.decDigits n = (if n < 10 then [] else Lib.decDigits (n / 10)) ++ [UInt8.ofNat (48 + n % 10)] := by
  rw [Lib.decDigits]
  by_cases h : n < 10
  · rw [dif_pos h, if_pos h, Nat.mod_eq_of_lt h]; rfl
  · rw [dif_neg h, if_neg h]
def decS (n : Nat) : ByteArray := ⟨(Lib.decDigits n).toArray⟩
end Go.Proofs.YtndjdmbbndcohaaDoor
