/-
  Plain: a 64-bit number turned left by four, k times: its lowest digit is the next of its sixteen hexadecimal digits. No condition of its own.
-/
import Derived.Test.YtjgmmeienchfnaaD16
namespace Go.Proofs.Ytjgmmeienchfnaa
set_option linter.unusedVariables false
set_option linter.unusedSimpArgs false

def rot4 (x : UInt64) : UInt64 := x <<< 4 ||| x >>> 60
def rotN (n : UInt64) : Nat → UInt64
  | 0 => n
  | k + 1 => rot4 (rotN n k)
theorem rot4_nat (x : UInt64) : (rot4 x).toNat = x.toNat * 16 % 18446744073709551616 + x.toNat / 1152921504606846976 := by
  have h0 := x.toNat_lt
  unfold rot4
  rw [UInt64.toNat_or, UInt64.toNat_shiftLeft, UInt64.toNat_shiftRight, show (4 : UInt64).toNat % 64 = 4 from rfl, show (60 : UInt64).toNat % 64 = 60 from rfl, Nat.shiftLeft_eq, Nat.shiftRight_eq_div_pow,
    show x.toNat * 2 ^ 4 % 2 ^ 64 = 2 ^ 4 * (x.toNat % 2 ^ 60) by omega, ← Nat.two_pow_add_eq_or_of_lt (by omega)]
theorem rot_step {N q p a d r b : Nat} (hq : q * p = 1152921504606846976) (hr : r < q) (hb : b < p) (ha : a = (q * d + r) * p + b) (hd : d < 16) :
    a * 16 % 18446744073709551616 + a / 1152921504606846976 = r * (16 * p) + (16 * b + d) := by
  have h1 : a = 1152921504606846976 * d + (r * p + b) := by rw [ha, ← hq, Nat.add_mul, Nat.mul_right_comm]; omega
  have h2 : r * p + b < 1152921504606846976 := by
    rw [← hq]
    have : r * p + p ≤ q * p := by rw [← Nat.succ_mul]; exact Nat.mul_le_mul_right p hr
    omega
  have h3 : r * (16 * p) = 16 * (r * p) := by rw [Nat.mul_left_comm]
  rw [h3]
  omega
theorem pow_parts {k : Nat} (hk : k < 16) : (16 : Nat) ^ (15 - k) * 16 ^ k = 1152921504606846976 := by
  rw [← Nat.pow_add, show 15 - k + k = 15 by omega]
theorem rotN_nat (n : UInt64) : ∀ k, k ≤ 16 → (rotN n k).toNat = n.toNat % 16 ^ (16 - k) * 16 ^ k + n.toNat / 16 ^ (16 - k)
  | 0, _ => by
    have h0 := n.toNat_lt
    show n.toNat = _
    rw [show (16 : Nat) ^ (16 - 0) = 18446744073709551616 from rfl, Nat.pow_zero, Nat.mul_one]
    omega
  | k + 1, hk => by
    have h0 := n.toNat_lt
    have ih := rotN_nat n k (by omega)
    have hp := pow_parts (k := k) (by omega)
    rw [show 16 - (k + 1) = 15 - k by omega]
    rw [show 16 - k = (15 - k) + 1 by omega] at ih
    obtain ⟨q, hq⟩ : ∃ q, 16 ^ (15 - k) = q := ⟨_, rfl⟩
    obtain ⟨p, hpp⟩ : ∃ p, 16 ^ k = p := ⟨_, rfl⟩
    rw [Nat.pow_succ, hq, hpp] at ih
    rw [hq, hpp] at hp
    rw [hq, show (16 : Nat) ^ (k + 1) = 16 * p by rw [Nat.pow_succ, hpp, Nat.mul_comm]]
    have hq0 : 0 < q := by rw [← hq]; exact Nat.pow_pos (by decide)
    have hp0 : 0 < p := by rw [← hpp]; exact Nat.pow_pos (by decide)
    have e1 : n.toNat % (q * 16) = q * (n.toNat / q % 16) + n.toNat % q := by rw [Nat.mod_mul]; omega
    have e2 : n.toNat / (q * 16) = n.toNat / q / 16 := (Nat.div_div_eq_div_mul _ _ _).symm
    have e3 : n.toNat / q / 16 < p := by
      rw [Nat.div_div_eq_div_mul, Nat.div_lt_iff_lt_mul (by omega)]
      rw [show p * (q * 16) = (q * p) * 16 by rw [Nat.mul_comm q p, Nat.mul_assoc], hp]
      omega
    rw [e1, e2] at ih
    show (rot4 (rotN n k)).toNat = _
    rw [rot4_nat]
    have := rot_step (N := 0) hp (Nat.mod_lt n.toNat hq0) e3 ih (Nat.mod_lt (n.toNat / q) (by decide))
    rw [this]
    omega
theorem rotN_dig (n : UInt64) {k : Nat} (hk : k < 16) : (rotN n (k + 1) &&& 15).toNat = n.toNat / 16 ^ (15 - k) % 16 := by
  rw [UInt64.toNat_and, show (15 : UInt64).toNat = 2 ^ 4 - 1 from rfl, Nat.and_two_pow_sub_one_eq_mod, rotN_nat n (k + 1) (by omega), show 16 - (k + 1) = 15 - k by omega, Nat.pow_succ]
  have : n.toNat % 16 ^ (15 - k) * (16 ^ k * 16) = (n.toNat % 16 ^ (15 - k) * 16 ^ k) * 16 := by rw [Nat.mul_assoc]
  rw [this]
  omega
/-- Sixteen zeros with the first ones replaced. -/
def padB (xs : List UInt8) (n : Nat) : List UInt8 := xs ++ List.replicate (n - xs.length) 0
theorem padB_len {xs : List UInt8} {n : Nat} (h : xs.length ≤ n) : (padB xs n).length = n := by unfold padB; simp; omega
theorem padB_set {xs : List UInt8} {n k : Nat} (hk : xs.length = k) (h : k < n) (c : UInt8) : (padB xs n).set k c = padB (xs ++ [c]) n := by
  unfold padB
  rw [List.set_append_right _ _ (by omega), hk, Nat.sub_self, List.length_append, List.length_singleton, hk, show n - k = (n - (k + 1)) + 1 by omega, List.replicate_succ, List.set_cons_zero, List.append_assoc]
  rfl
theorem padB_all {xs : List UInt8} {n : Nat} (h : xs.length = n) : padB xs n = xs := by unfold padB; rw [h, Nat.sub_self]; simp
theorem pad2_fst {xs : List UInt8} {n k : Nat} (hk : xs.length = k) (h : k < n) (r : List UInt8) (c : UInt8) : (padB xs n ++ r).set k c = padB (xs ++ [c]) n ++ r := by
  rw [List.set_append_left _ _ (by rw [padB_len (by omega)]; omega), padB_set hk h]
theorem pad2_snd {xs : List UInt8} {n k j : Nat} (hk : xs.length = k) (h : k < n) {r : List UInt8} (hr : r.length = j) (c : UInt8) : (r ++ padB xs n).set (j + k) c = r ++ padB (xs ++ [c]) n := by
  rw [List.set_append_right _ _ (by omega), hr, Nat.add_sub_cancel_left, padB_set hk h]
end Go.Proofs.Ytjgmmeienchfnaa
