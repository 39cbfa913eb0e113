/-
  Plain: numbers as sixteen hexadecimal digits, read and written. No condition of its own.
-/
import Derived.Test.YtjgmmeienchfnaaD15
namespace Go.Proofs.Ytjgmmeienchfnaa
set_option linter.unusedVariables false
set_option linter.unusedSimpArgs false

def hexD (d : Nat) : UInt8 := if d < 10 then UInt8.ofNat (48 + d) else UInt8.ofNat (87 + d)
/-- The value of a digit; none: it is none. -/
def hexV (c : UInt8) : Option Nat := if 48 ≤ c.toNat ∧ c.toNat ≤ 57 then some (c.toNat - 48) else if 97 ≤ c.toNat ∧ c.toNat ≤ 102 then some (c.toNat - 87) else none
theorem hexV_D {d : Nat} (h : d < 16) : hexV (hexD d) = some d := by
  have key : ∀ d : _root_.Fin 16, hexV (hexD d.val) = some d.val := by decide
  exact key ⟨d, h⟩
theorem hexD_V {c : UInt8} {d : Nat} (h : hexV c = some d) : d < 16 ∧ hexD d = c := by
  unfold hexV at h
  split at h
  · rename_i q
    obtain rfl := Option.some.inj h
    refine ⟨by omega, ?_⟩
    unfold hexD
    rw [if_pos (by omega), show 48 + (c.toNat - 48) = c.toNat by omega]
    exact UInt8.ofNat_toNat
  · split at h
    · rename_i q
      obtain rfl := Option.some.inj h
      refine ⟨by omega, ?_⟩
      unfold hexD
      rw [if_neg (by omega), show 87 + (c.toNat - 87) = c.toNat by omega]
      exact UInt8.ofNat_toNat
    · cases h
/-- The first k digits of n, of sixteen. -/
def hexT (n : Nat) (k : Nat) : List UInt8 := (List.range k).map fun i => hexD (n / 16 ^ (15 - i) % 16)
def dText (n : UInt64) : List UInt8 := hexT n.toNat 16
theorem hexT_len (n k : Nat) : (hexT n k).length = k := by unfold hexT; simp
theorem hexT_at (n k : Nat) (i : Nat) (hi : i < (hexT n k).length) : (hexT n k)[i] = hexD (n / 16 ^ (15 - i) % 16) := by
  have h : (hexT n k)[i]? = some (hexD (n / 16 ^ (15 - i) % 16)) := by
    have hk : i < k := by rw [hexT_len] at hi; exact hi
    unfold hexT
    rw [List.getElem?_map, List.getElem?_range hk]; rfl
  rw [List.getElem?_eq_getElem hi] at h
  exact Option.some.inj h
theorem hexT_step (n k : Nat) : hexT n (k + 1) = hexT n k ++ [hexD (n / 16 ^ (15 - k) % 16)] := by unfold hexT; rw [List.range_succ, List.map_append]; rfl
/-- The number that digits are, behind a number; none: one is none. -/
def hexN : Nat → List UInt8 → Option Nat
  | n, [] => some n
  | n, c :: r => match hexV c with
    | some d => hexN (n * 16 + d) r
    | none => none
def dReadN (s : List UInt8) : Option Nat := if s.length = 16 then hexN 0 s else none
theorem hexN_app : ∀ (a b : List UInt8) (n m : Nat), hexN n a = some m → hexN n (a ++ b) = hexN m b
  | [], b, n, m, h => by obtain rfl := Option.some.inj h; rfl
  | c :: a, b, n, m, h => by
    rw [hexN] at h
    rw [List.cons_append, hexN]
    cases hc : hexV c with
    | none => rw [hc] at h; cases h
    | some d => rw [hc] at h; exact hexN_app a b _ m h
theorem hexN_bad : ∀ (a b : List UInt8) (n : Nat), hexN n a = none → hexN n (a ++ b) = none
  | [], b, n, h => by cases h
  | c :: a, b, n, h => by
    rw [hexN] at h
    rw [List.cons_append, hexN]
    cases hc : hexV c with
    | none => rfl
    | some d => rw [hc] at h; exact hexN_bad a b _ h
theorem hexN_lt : ∀ (s : List UInt8) (n m : Nat), hexN n s = some m → m < (n + 1) * 16 ^ s.length
  | [], n, m, h => by obtain rfl := Option.some.inj h; simp
  | c :: r, n, m, h => by
    rw [hexN] at h
    cases hc : hexV c with
    | none => rw [hc] at h; cases h
    | some d =>
      rw [hc] at h
      have h1 := hexN_lt r _ m h
      have h2 := (hexD_V hc).1
      rw [List.length_cons, Nat.pow_succ]
      have h3 : (n * 16 + d + 1) * 16 ^ r.length ≤ (n + 1) * 16 * 16 ^ r.length := Nat.mul_le_mul_right _ (by omega)
      have h4 : (n + 1) * 16 * 16 ^ r.length = (n + 1) * (16 ^ r.length * 16) := by rw [Nat.mul_assoc, Nat.mul_comm 16]
      omega
theorem div_digit (n j : Nat) : n / 16 ^ j = n / 16 ^ (j + 1) * 16 + n / 16 ^ j % 16 := by
  have h : n / 16 ^ (j + 1) = n / 16 ^ j / 16 := by rw [Nat.pow_succ, Nat.div_div_eq_div_mul]
  rw [h]; omega
theorem hexN_T (n : Nat) (hn : n < 16 ^ 16) : ∀ k, k ≤ 16 → hexN 0 (hexT n k) = some (n / 16 ^ (16 - k))
  | 0, _ => by
    rw [Nat.sub_zero, Nat.div_eq_of_lt hn]; rfl
  | k + 1, h => by
    rw [hexT_step, hexN_app _ _ _ _ (hexN_T n hn k (by omega)), hexN, hexV_D (Nat.mod_lt _ (by decide))]
    show hexN _ [] = _
    rw [hexN, show 16 - (k + 1) = 15 - k by omega, show 16 - k = (15 - k) + 1 by omega, ← div_digit]
theorem hexN_back : ∀ (s : List UInt8) (n m : Nat), hexN n s = some m → ∀ i (hi : i < s.length), s[i] = hexD (m / 16 ^ (s.length - 1 - i) % 16) ∧ m / 16 ^ s.length = n
  | [], _, _, _, i, hi => by simp at hi
  | c :: r, n, m, h, i, hi => by
    rw [hexN] at h
    cases hc : hexV c with
    | none => rw [hc] at h; cases h
    | some d =>
      rw [hc] at h
      obtain ⟨hd, hdc⟩ := hexD_V hc
      have hq : m / 16 ^ r.length = n * 16 + d := by
        cases r with
        | nil =>
          have h2 : n * 16 + d = m := Option.some.inj h
          rw [← h2]; simp
        | cons b q => exact (hexN_back (b :: q) _ m h 0 (by simp)).2
      refine ⟨?_, ?_⟩
      · cases i with
        | zero =>
          show c = _
          rw [List.length_cons, show r.length + 1 - 1 - 0 = r.length by omega, hq, show (n * 16 + d) % 16 = d by omega, hdc]
        | succ i =>
          have hi2 : i < r.length := by simpa using hi
          have := (hexN_back r _ m h i hi2).1
          rw [List.getElem_cons_succ, this, List.length_cons]
          congr 4
          omega
      · rw [List.length_cons, Nat.pow_succ, ← Nat.div_div_eq_div_mul, hq]; omega
theorem text_read {s : List UInt8} {m : Nat} (h : dReadN s = some m) : m < 18446744073709551616 ∧ hexT m 16 = s := by
  unfold dReadN at h
  split at h
  · rename_i hl
    have h1 := hexN_lt s 0 m h
    rw [hl] at h1
    refine ⟨by simpa using h1, ?_⟩
    apply List.ext_getElem
    · rw [hexT_len, hl]
    · intro i hi hi2
      rw [(hexN_back s 0 m h i hi2).1, hl, hexT_at]
  · cases h
theorem read_text (n : UInt64) : dReadN (dText n) = some n.toNat := by
  unfold dReadN dText
  rw [if_pos (hexT_len _ _), hexN_T n.toNat (by have := n.toNat_lt; exact Nat.lt_of_lt_of_le this (by decide)) 16 (Nat.le_refl _)]
  simp
def dReadV (s : List UInt8) : UInt64 := UInt64.ofNat ((dReadN s).getD 0)
def dReadB (s : List UInt8) : Bool := (dReadN s).isSome
end Go.Proofs.Ytjgmmeienchfnaa
