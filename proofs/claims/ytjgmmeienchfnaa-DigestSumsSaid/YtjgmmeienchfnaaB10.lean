/-
  An array of bytes in a block of the call's own: stores at an index that is not a number, the array as a slice; shifts by a sum. No condition of its own but the bounds that each theorem names.
-/
import Derived.Test.YtjgmmeienchfnaaB9
import Derived.Test.YtjgmmeienchfnaaD17
namespace Go.Proofs.Ytjgmmeienchfnaa
open Go.RowKit
set_option linter.unusedVariables false
set_option linter.unusedSimpArgs false

/-- The cells of an array of bytes. -/
def arrC (bs : List UInt8) : Array Value := (bs.flatMap u8C).toArray
theorem arrC_size (bs : List UInt8) : (arrC bs).size = bs.length := by unfold arrC; rw [u8_flat]; simp
theorem u8_flat_len (l : List UInt8) : (l.flatMap u8C).length = l.length := by rw [u8_flat]; simp
theorem arrC_set {bs : List UInt8} {k : Nat} (hk : k < bs.length) (c : UInt8) : storeIn (arrC bs) k (Value.int .u8 (c.toNat : Int)).cells = arrC (bs.set k c) := by
  have h := store_byte (cur := arrC bs) (l := bs) hk (by rw [arrC_size]; exact Nat.le_refl _) (by unfold arrC; rw [Nat.mul_one, List.take_of_length_le (by rw [u8_flat_len]; exact Nat.le_refl _)]) c
  have h2 : (storeIn (arrC bs) k (Value.int .u8 (c.toNat : Int)).cells).size = bs.length := by
    have e := arrC_size bs
    have e2 : (arrC bs).toList.length = bs.length := by rw [← e]; simp
    unfold storeIn
    simp [Value.cells, e2]
    omega
  apply Array.toList_inj.1
  rw [List.length_set, Nat.mul_one, List.take_of_length_le (by rw [Array.length_toList, h2]; exact Nat.le_refl _)] at h
  rw [h]; unfold arrC; simp
section
variable {P : Program} {o : Oper}
theorem run_slarr {ρ : Operand → Value} {t e : TypeId} {x : Operand} {b n sz : Nat} (ho : o.op = .slice t x none none none) (hx : ρ x = .pointer (some ⟨b, 0, none⟩))
    (hu : P.underlying t = some (.array n e)) (hs : (P.info? e).map (·.size) = some sz) (w : World) : (execOp ρ o).run P w = .ok (.value (.slice (some ⟨b, 0, none⟩) n n)) w := by
  cases he : P.info? e with
  | none => rw [he] at hs; cases hs
  | some i =>
    unfold execOp
    simp [ho, hx, Instr.sliceAt, Instr.sureAddr, Instr.slice, Instr.sliceBounds, Instr.sliceBound, Sem.run_bind, asIntOf, run_underlying hu, sizeOf, typeInfo, he, add_off]
theorem run_shr64z {ρ : Operand → Value} {t t' : TypeId} {a b : Operand} {x : UInt64} {yk : IntKind} {n : Nat} {z : Int} (ho : o.op = .binOp .shr t a b t') (hx : ρ a = .int .u64 (x.toNat : Int)) (hy : ρ b = .int yk z) (hz : z = (n : Int)) (hn : n < 64) (w : World) : (execOp ρ o).run P w = .ok (.value (.int .u64 ((x >>> UInt64.ofNat n).toNat : Int))) w :=
  run_shr64 ho hx (by rw [hy, hz]) hn w
end
theorem Own.arr {M : List Nat} {W w : World} {L : List Blk} (hO : Own M W w L) {b : Nat} {bs : List UInt8} {T : TypeId} (h : (⟨b, arrC bs, T⟩ : Blk) ∈ L) : Reads u8C w w.heap.size (some ⟨b, 0, none⟩) bs :=
  Reads.lit9 (hO.held _ h) (by unfold arrC; simp)
end Go.Proofs.Ytjgmmeienchfnaa
