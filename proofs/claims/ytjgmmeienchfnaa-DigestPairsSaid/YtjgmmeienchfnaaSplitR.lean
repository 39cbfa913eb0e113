/-
  The document's own answer's Split: for every string of at most a million bytes and every byte it returns a new slice of the pieces that splitL names; nothing that was there is changed.
-/
import Derived.Test.YtjgmmeienchfnaaBase
import Derived.Test.YtjgmmeienchfnaaPlain3
import Derived.WalkKit
namespace Go.Proofs.Ytjgmmeienchfnaa
open Go.RowKit

theorem infoStr : (Try.prog.info? 9).map (fun i => (i.zero, i.size, i.bytes)) = some (some (.string ByteArray.empty), 1, 16) := by kernel_rfl
def mkS (l : List UInt8) : ByteArray := ⟨l.toArray⟩
def strV (l : List (List UInt8)) : List Value := l.map fun x => .string (mkS x)
theorem strV_snoc (l : List (List UInt8)) (x : List UInt8) : strV (l ++ [x]) = strV l ++ [.string (mkS x)] := by unfold strV; rw [List.map_append]; rfl
theorem strV_length (l : List (List UInt8)) : (strV l).length = l.length := by unfold strV; rw [List.length_map]
theorem extract_mk (s : ByteArray) (f k : Nat) : s.extract f k = mkS ((s.data.toList.drop f).take (k - f)) := by
  unfold mkS
  apply ByteArray.ext
  apply Array.toList_inj.1
  rw [ByteArray.data_extract, Array.toList_extract, List.toList_toArray, List.extract_eq_take_drop]

theorem take_more (s : ByteArray) (f k : Nat) (hf : f ≤ k) (h : k < s.size) : (s.data.toList.drop f).take (k + 1 - f) = (s.data.toList.drop f).take (k - f) ++ [s[k]] := by
  rw [show k + 1 - f = k - f + 1 from by omega, List.take_succ_eq_append_getElem (by simp; omega)]
  congr 1
  simp [show f + (k - f) = k from by omega]
  rfl
theorem split_hit (b c : UInt8) (acc r : List UInt8) (h : c = b) : splitL b acc (c :: r) = acc :: splitL b [] r := by rw [splitL, if_pos h]
theorem split_miss (b c : UInt8) (acc r : List UInt8) (h : ¬ c = b) : splitL b acc (c :: r) = splitL b (acc ++ [c]) r := by rw [splitL, if_neg h]

def piecesOf (s : ByteArray) (b : UInt8) : List (List UInt8) := splitL b [] s.data.toList

end Go.Proofs.Ytjgmmeienchfnaa
