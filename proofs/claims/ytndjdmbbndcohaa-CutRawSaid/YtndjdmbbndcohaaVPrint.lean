/-
  Package version: Print: it returns the string of a valid version, and the empty string for any other; nothing that was there is changed. Conditions: strings of at most a million bytes; the library's table of powers of ten reads as it is laid.
-/
import Derived.Test.YtndjdmbbndcohaaVMay
import Derived.Test.YtndjdmbbndcohaaJoin
import Derived.Test.YtndjdmbbndcohaaClone
namespace Go.Proofs.Ytndjdmbbndcohaa
open Go.RowKit

def digs (a b c : Int) : List (List UInt8) := [Lib.itoa a, Lib.itoa b, Lib.itoa c]
theorem digs_snoc (a b c : Int) (k : Nat) (hk : k < 3) : (digs a b c).take (k + 1) = (digs a b c).take k ++ [Lib.itoa (nth3 a b c k)] := by
  match k, hk with
  | 0, _ => rfl
  | 1, _ => rfl
  | 2, _ => rfl
theorem digs_len (a b c : Int) (k : Nat) (hk : k ≤ 3) : ((digs a b c).take k).length = k := by
  rw [List.length_take]; simp [digs]; omega
theorem join_digs (a b c : Int) : joinL 46 (digs a b c) = Lib.itoa a ++ 46 :: (Lib.itoa b ++ 46 :: Lib.itoa c) := rfl
theorem dec_len (n : Nat) (h : n ≤ 9999) : (Lib.decDigits n).length ≤ 4 := by
  rw [Lib.decDigits_length]
  unfold Lib.nDigits
  split
  · omega
  · unfold Lib.nDigits
    split
    · omega
    · unfold Lib.nDigits
      split
      · omega
      · rw [Lib.nDigits_small (by omega)]; omega
theorem itoa_len {n : Int} (h : numOkI n = true) : (Lib.itoa n).length ≤ 4 := by
  rw [itoa_nat h]
  apply dec_len
  unfold numOkI at h; simp at h; omega
theorem nums_len {a b c : Int} (h1 : numOkI a = true) (h2 : numOkI b = true) (h3 : numOkI c = true) : (joinL 46 (digs a b c)).length ≤ 14 := by
  rw [join_digs]
  have := itoa_len h1; have := itoa_len h2; have := itoa_len h3
  simp; omega

end Go.Proofs.Ytndjdmbbndcohaa
