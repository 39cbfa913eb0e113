/-
  Plain: the checksum of chapter 9 over unsigned 64-bit numbers, and why one byte turned changes it. No condition of its own.
-/
import Derived.Test.YtjgmmeienchfnaaPlain1
namespace Go.Proofs.Ytjgmmeienchfnaa
set_option linter.unusedVariables false
set_option linter.unusedSimpArgs false

def dK : UInt64 := 0xFF51AFD7ED558CCD
def dI : UInt64 := 0x9E3779B97F4A7C15
def rot13 (x : UInt64) : UInt64 := x <<< 13 ||| x >>> 51
def dStep (h : UInt64) (b : UInt8) : UInt64 := rot13 (h ^^^ b.toUInt64) * dK
def dMix (l : List UInt8) : UInt64 := l.foldl dStep dI
def dEnd (h : UInt64) : UInt64 := h ^^^ h >>> 29
def dSum (l : List UInt8) : UInt64 := dEnd (dMix l)
theorem dMul {x y : UInt64} (h : x * dK = y * dK) : x = y := by
  have e : dK * 0x4F74430C22A54005 = 1 := by decide
  have h2 := congrArg (· * (0x4F74430C22A54005 : UInt64)) h
  simp only [UInt64.mul_assoc, e, UInt64.mul_one] at h2
  exact h2
theorem bv_rot (x : BitVec 64) : (x <<< 13 ||| x >>> 51) >>> 13 ||| (x <<< 13 ||| x >>> 51) <<< 51 = x := by
  apply BitVec.eq_of_getLsbD_eq
  intro i hi
  simp only [BitVec.getLsbD_or, BitVec.getLsbD_shiftLeft, BitVec.getLsbD_ushiftRight]
  by_cases h : i < 51
  · have h1 : decide (13 + i < 64) = true := decide_eq_true (by omega)
    have h2 : decide (13 + i < 13) = false := decide_eq_false (by omega)
    have h3 : decide (i < 51) = true := decide_eq_true h
    have h4 : x.getLsbD (51 + (13 + i)) = false := BitVec.getLsbD_of_ge _ _ (by omega)
    have h5 : 13 + i - 13 = i := by omega
    simp [h1, h2, h3, h4, h5]
  · have h1 : decide (13 + i < 64) = false := decide_eq_false (by omega)
    have h3 : decide (i < 51) = false := decide_eq_false h
    have h4 : x.getLsbD (51 + (13 + i)) = false := BitVec.getLsbD_of_ge _ _ (by omega)
    have h5 : decide (i - 51 < 13) = true := decide_eq_true (by omega)
    have h6 : 51 + (i - 51) = i := by omega
    have h7 : decide (i < 64) = true := decide_eq_true hi
    simp [h1, h3, h4, h5, h6, h7]
theorem bv_end (x : BitVec 64) : (x ^^^ x >>> 29) ^^^ (x ^^^ x >>> 29) >>> 29 ^^^ (x ^^^ x >>> 29) >>> 58 = x := by
  apply BitVec.eq_of_getLsbD_eq
  intro i hi
  simp only [BitVec.getLsbD_xor, BitVec.getLsbD_ushiftRight]
  have h1 : 29 + (29 + i) = 58 + i := by omega
  have h2 : x.getLsbD (29 + (58 + i)) = false := BitVec.getLsbD_of_ge _ _ (by omega)
  rw [h1, h2]
  cases x.getLsbD i <;> cases x.getLsbD (29 + i) <;> cases x.getLsbD (58 + i) <;> rfl
theorem rot_inj {x y : UInt64} (h : rot13 x = rot13 y) : x = y := by
  have h2 : x.toBitVec <<< 13 ||| x.toBitVec >>> 51 = y.toBitVec <<< 13 ||| y.toBitVec >>> 51 := by
    have := congrArg UInt64.toBitVec h
    simpa [rot13] using this
  have h3 := bv_rot x.toBitVec
  rw [h2, bv_rot] at h3
  exact UInt64.toBitVec_inj.1 h3.symm
theorem end_inj {x y : UInt64} (h : dEnd x = dEnd y) : x = y := by
  have h2 : x.toBitVec ^^^ x.toBitVec >>> 29 = y.toBitVec ^^^ y.toBitVec >>> 29 := by
    have := congrArg UInt64.toBitVec h
    simpa [dEnd] using this
  have h3 := bv_end x.toBitVec
  rw [h2, bv_end] at h3
  exact UInt64.toBitVec_inj.1 h3.symm
theorem xor_cancel {x y z : UInt64} (h : x ^^^ z = y ^^^ z) : x = y := by
  have h2 := congrArg (· ^^^ z) h
  simpa [UInt64.xor_assoc] using h2
theorem step_inj {x y : UInt64} {b : UInt8} (h : dStep x b = dStep y b) : x = y := xor_cancel (rot_inj (dMul h))
theorem step_byte {x : UInt64} {b c : UInt8} (h : dStep x b = dStep x c) : b = c := by
  have h2 := rot_inj (dMul h)
  have h3 : b.toUInt64 = c.toUInt64 := by
    have := congrArg (x ^^^ ·) h2
    simpa [← UInt64.xor_assoc] using this
  have h4 := congrArg UInt64.toNat h3
  rw [UInt8.toNat_toUInt64, UInt8.toNat_toUInt64] at h4
  exact UInt8.toNat_inj.1 h4
theorem mix_inj : ∀ (l : List UInt8) {x y : UInt64}, l.foldl dStep x = l.foldl dStep y → x = y
  | [], _, _, h => h
  | b :: l, x, y, h => step_inj (mix_inj l h)
theorem mix_one : ∀ (l : List UInt8) (k : Nat) (hk : k < l.length) (c : UInt8) (x : UInt64), (l.set k c).foldl dStep x = l.foldl dStep x → c = l[k]
  | b :: l, 0, _, c, x, h => step_byte (mix_inj l h)
  | b :: l, k + 1, hk, c, x, h => mix_one l k (by simpa using hk) c _ h
/-- One byte turned changes the sum. -/
theorem dSum_one {l : List UInt8} {k : Nat} (hk : k < l.length) {c : UInt8} : dSum (l.set k c) = dSum l ↔ c = l[k] := by
  constructor
  · exact fun h => mix_one l k hk c dI (end_inj h)
  · intro h; rw [h, List.set_getElem_self]
/-! ### Pairs and roots -/
def dBytes (n : UInt64) : List UInt8 := ([56, 48, 40, 32, 24, 16, 8, 0] : List UInt64).map fun k => (n >>> k).toUInt8
def dPair (a b : UInt64) : UInt64 := dSum (dBytes a ++ dBytes b)
def dRoot (l : List UInt64) : UInt64 := l.foldl dPair (dSum [])
theorem dRoot_snoc (l : List UInt64) (n : UInt64) : dRoot (l ++ [n]) = dPair (dRoot l) n := by unfold dRoot; rw [List.foldl_append]; rfl
end Go.Proofs.Ytjgmmeienchfnaa
