/-
  Operations on unsigned 64-bit numbers and bytes: and, or, xor, shifts, products, conversions. No condition of their own but the bounds that each theorem names.
-/
import Derived.Test.YtjgmmeienchfnaaRx
import Derived.Laws.BitsAllLaws
import Derived.Laws.Entries
namespace Go.Proofs.Ytjgmmeienchfnaa
open Go.RowKit
set_option linter.unusedVariables false
set_option linter.unusedSimpArgs false

def u64V (x : UInt64) : Value := .int .u64 (x.toNat : Int)
section
variable {P : Program} {ρ : Operand → Value} {o : Oper} {t t' : TypeId} {a b : Operand}
theorem lt64 (x : UInt64) : x.toNat < 18446744073709551616 := x.toNat_lt
theorem run_xor64 {x y : UInt64} (ho : o.op = .binOp .xor t a b t') (hx : ρ a = .int .u64 (x.toNat : Int)) (hy : ρ b = .int .u64 (y.toNat : Int)) (w : World) : (execOp ρ o).run P w = .ok (.value (.int .u64 ((x ^^^ y).toNat : Int))) w := by
  have hb : binOp .xor t (.int .u64 (x.toNat : Int)) (.int .u64 (y.toNat : Int)) = pure (.int .u64 ((x ^^^ y).toNat : Int)) := by
    have e := u64_xor_nat _ _ (lt64 x) (lt64 y)
    rw [← UInt64.toNat_xor] at e
    rw [← e]
    simp [binOp, intBits_xor]
  have hg : eqGuard .xor t a b (.int .u64 (x.toNat : Int)) (.int .u64 (y.toNat : Int)) = pure () := rfl
  unfold execOp
  simp only [ho, hx, hy, Sem.run_bind, hg, hb, Sem.run_pure, Result.andThen_ok]
theorem run_or64 {x y : UInt64} (ho : o.op = .binOp .or t a b t') (hx : ρ a = .int .u64 (x.toNat : Int)) (hy : ρ b = .int .u64 (y.toNat : Int)) (w : World) : (execOp ρ o).run P w = .ok (.value (.int .u64 ((x ||| y).toNat : Int))) w := by
  have hb : binOp .or t (.int .u64 (x.toNat : Int)) (.int .u64 (y.toNat : Int)) = pure (.int .u64 ((x ||| y).toNat : Int)) := by
    have e := u64_or_nat _ _ (lt64 x) (lt64 y)
    rw [← UInt64.toNat_or] at e
    rw [← e]
    simp [binOp, intBits_or]
  have hg : eqGuard .or t a b (.int .u64 (x.toNat : Int)) (.int .u64 (y.toNat : Int)) = pure () := rfl
  unfold execOp
  simp only [ho, hx, hy, Sem.run_bind, hg, hb, Sem.run_pure, Result.andThen_ok]
theorem run_and64 {x y : UInt64} (ho : o.op = .binOp .and t a b t') (hx : ρ a = .int .u64 (x.toNat : Int)) (hy : ρ b = .int .u64 (y.toNat : Int)) (w : World) : (execOp ρ o).run P w = .ok (.value (.int .u64 ((x &&& y).toNat : Int))) w := by
  have hb : binOp .and t (.int .u64 (x.toNat : Int)) (.int .u64 (y.toNat : Int)) = pure (.int .u64 ((x &&& y).toNat : Int)) := by
    have e := u64_and_nat _ _ (lt64 x) (lt64 y)
    rw [← UInt64.toNat_and] at e
    rw [← e]
    simp [binOp, intBits_and]
  have hg : eqGuard .and t a b (.int .u64 (x.toNat : Int)) (.int .u64 (y.toNat : Int)) = pure () := rfl
  unfold execOp
  simp only [ho, hx, hy, Sem.run_bind, hg, hb, Sem.run_pure, Result.andThen_ok]
theorem wrap64_nat (n : Nat) : IntKind.u64.wrap (n : Int) = ((n % 18446744073709551616 : Nat) : Int) := by
  simp [IntKind.wrap, IntKind.bits, IntKind.signed]
theorem run_mul64 {x y : UInt64} (ho : o.op = .binOp .mul t a b t') (hx : ρ a = .int .u64 (x.toNat : Int)) (hy : ρ b = .int .u64 (y.toNat : Int)) (w : World) : (execOp ρ o).run P w = .ok (.value (.int .u64 ((x * y).toNat : Int))) w := by
  unfold execOp
  have h := wrap64_nat (x.toNat * y.toNat)
  rw [Int.natCast_mul] at h
  simp [ho, hx, hy, eqGuard, binOp, Op.intArith, h, UInt64.toNat_mul]
theorem run_shl64 {x : UInt64} {yk : IntKind} {n : Nat} (ho : o.op = .binOp .shl t a b t') (hx : ρ a = .int .u64 (x.toNat : Int)) (hy : ρ b = .int yk (n : Int)) (hn : n < 64) (w : World) : (execOp ρ o).run P w = .ok (.value (.int .u64 ((x <<< UInt64.ofNat n).toNat : Int))) w := by
  have h1 := shift_shl .u64 yk (x.toNat : Int) (n : Int) (by omega) (by show (n : Int) ≤ 64; omega)
  have h2 : IntKind.u64.wrap ((x.toNat : Int) * 2 ^ (n : Int).toNat) = ((x <<< UInt64.ofNat n).toNat : Int) := by
    have h := wrap64_nat (x.toNat * 2 ^ n)
    rw [Int.toNat_natCast]
    rw [Int.natCast_mul] at h
    rw [show ((2 : Int) ^ n) = ((2 ^ n : Nat) : Int) from by push_cast; rfl, h, UInt64.toNat_shiftLeft, UInt64.toNat_ofNat', Nat.shiftLeft_eq, show n % 2 ^ 64 % 64 = n from by omega]
  have hg : eqGuard .shl t a b (.int .u64 (x.toNat : Int)) (.int yk (n : Int)) = pure () := rfl
  unfold execOp
  simp only [ho, hx, hy, Sem.run_bind, hg, binOp, h1, h2, Sem.run_pure, Result.andThen_ok]
theorem run_shr64 {x : UInt64} {yk : IntKind} {n : Nat} (ho : o.op = .binOp .shr t a b t') (hx : ρ a = .int .u64 (x.toNat : Int)) (hy : ρ b = .int yk (n : Int)) (hn : n < 64) (w : World) : (execOp ρ o).run P w = .ok (.value (.int .u64 ((x >>> UInt64.ofNat n).toNat : Int))) w := by
  have h1 := shift_shr .u64 yk (x.toNat : Int) (n : Int) (by omega) (by show (n : Int) ≤ 64; omega)
  have h2 : (x.toNat : Int) / 2 ^ (n : Int).toNat = ((x >>> UInt64.ofNat n).toNat : Int) := by
    rw [Int.toNat_natCast, show ((2 : Int) ^ n) = ((2 ^ n : Nat) : Int) from by push_cast; rfl, UInt64.toNat_shiftRight, UInt64.toNat_ofNat', Nat.shiftRight_eq_div_pow, show n % 2 ^ 64 % 64 = n from by omega]
    exact (Int.natCast_ediv _ _).symm
  have hg : eqGuard .shr t a b (.int .u64 (x.toNat : Int)) (.int yk (n : Int)) = pure () := rfl
  unfold execOp
  simp only [ho, hx, hy, Sem.run_bind, hg, binOp, h1, h2, Sem.run_pure, Result.andThen_ok]
/-- uint64(b). -/
theorem run_to64 {src dst : TypeId} {x : UInt8} (ho : o.op = .convert src dst a) (hx : ρ a = .int .u8 (x.toNat : Int)) (hs : (P.underlying src).isSome = true) (hd : P.underlying dst = some (.int .u64)) (w : World) : (execOp ρ o).run P w = .ok (.value (.int .u64 (x.toUInt64.toNat : Int))) w := by
  have hk : P.intKind dst = .u64 := by unfold Program.intKind; rw [hd]
  have h := run_convert_int (P := P) w src dst .u8 (x.toNat : Int) hs (by rw [hk]; exact hd)
  rw [hk, wrap64_nat] at h
  have e : x.toNat % 18446744073709551616 = x.toUInt64.toNat := by rw [UInt8.toNat_toUInt64]; have := x.toNat_lt; omega
  rw [e] at h
  unfold execOp
  simp only [ho, hx, Sem.run_bind, h, Sem.run_pure, Result.andThen_ok]
/-- byte(n). -/
theorem run_to8 {src dst : TypeId} {x : UInt64} (ho : o.op = .convert src dst a) (hx : ρ a = .int .u64 (x.toNat : Int)) (hs : (P.underlying src).isSome = true) (hd : P.underlying dst = some (.int .u8)) (w : World) : (execOp ρ o).run P w = .ok (.value (.int .u8 (x.toUInt8.toNat : Int))) w := by
  have hk : P.intKind dst = .u8 := by unfold Program.intKind; rw [hd]
  have h := run_convert_int (P := P) w src dst .u64 (x.toNat : Int) hs (by rw [hk]; exact hd)
  have h8 : IntKind.u8.wrap (x.toNat : Int) = (x.toUInt8.toNat : Int) := by
    rw [IntKind.wrap_u8', UInt64.toNat_toUInt8]; omega
  rw [hk, h8] at h
  unfold execOp
  simp only [ho, hx, Sem.run_bind, h, Sem.run_pure, Result.andThen_ok]
end
end Go.Proofs.Ytjgmmeienchfnaa
