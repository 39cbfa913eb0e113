/-
  Plain mathematics for chapter 1: which number a string of bytes denotes, computed digit by digit with an early end (package ident) and at once (the document's own answer): the two agree; and the digits of a number denote it.
-/
import Derived.Test.YtndjdmbbndcohaaDoorPlain1
import Derived.Lib.ItoaNum
import Derived.Lib.ItoaMem
namespace Go.Proofs.YtndjdmbbndcohaaDoor
open Go.RowKit

def numGo : Nat → Bool → List UInt8 → Option Nat
  | n, first, [] => if first then none else some n
  | n, first, c :: r =>
    if digB c.toNat then
      (if first = false ∧ n = 0 then none
       else if n * 10 + (c.toNat - 48) ≤ 9999 then numGo (n * 10 + (c.toNat - 48)) false r else none)
    else none
def numB (s : ByteArray) : Option Nat := numGo 0 true s.data.toList
def numV (s : ByteArray) : Int := ((numB s).getD 0 : Nat)
def numOk (s : ByteArray) : Bool := (numB s).isSome

theorem numGo_bad (n : Nat) (f : Bool) (c : UInt8) (r : List UInt8) (h : digB c.toNat = false) : numGo n f (c :: r) = none := by
  rw [numGo, if_neg (by simp [h])]
theorem numGo_zero (c : UInt8) (r : List UInt8) : numGo 0 false (c :: r) = none := by
  rw [numGo]; simp
theorem numGo_big (n : Nat) (f : Bool) (c : UInt8) (r : List UInt8) (h3 : ¬ n * 10 + (c.toNat - 48) ≤ 9999) : numGo n f (c :: r) = none := by
  rw [numGo, if_neg h3]; simp
theorem numGo_on (n : Nat) (f : Bool) (c : UInt8) (r : List UInt8) (h : digB c.toNat = true) (h2 : ¬ (f = false ∧ n = 0)) (h3 : n * 10 + (c.toNat - 48) ≤ 9999) :
    numGo n f (c :: r) = numGo (n * 10 + (c.toNat - 48)) false r := by
  rw [numGo, if_pos h, if_neg h2, if_pos h3]

/-- All are digits; the value. -/
def allDig (l : List UInt8) : Bool := l.all fun c => digB c.toNat
def foldV (n : Nat) (l : List UInt8) : Nat := l.foldl (fun n c => n * 10 + (c.toNat - 48)) n
theorem foldV_le (l : List UInt8) : ∀ n, n ≤ foldV n l := by
  induction l with
  | nil => intro n; exact Nat.le_refl _
  | cons c r ih => intro n; exact Nat.le_trans (by omega) (ih (n * 10 + (c.toNat - 48)))
theorem foldV_pow (l : List UInt8) : ∀ n, n * 10 ^ l.length ≤ foldV n l := by
  induction l with
  | nil => intro n; simp [foldV]
  | cons c r ih =>
    intro n
    refine Nat.le_trans ?_ (ih (n * 10 + (c.toNat - 48)))
    rw [List.length_cons, Nat.pow_succ, Nat.mul_comm (10 ^ r.length) 10, ← Nat.mul_assoc]
    exact Nat.mul_le_mul_right _ (by omega)

theorem numGo_pos (l : List UInt8) : ∀ n, 1 ≤ n → n ≤ 9999 → numGo n false l = if allDig l = true ∧ foldV n l ≤ 9999 then some (foldV n l) else none := by
  induction l with
  | nil => intro n h1 h2; simp [numGo, allDig, foldV, h2]
  | cons c r ih =>
    intro n h1 h2
    by_cases hd : digB c.toNat = true
    · by_cases h3 : n * 10 + (c.toNat - 48) ≤ 9999
      · rw [numGo_on n false c r hd (by omega) h3, ih _ (by omega) h3]
        have e1 : allDig (c :: r) = allDig r := by unfold allDig; rw [List.all_cons, hd]; rfl
        rw [e1]; rfl
      · rw [numGo_big n false c r h3, if_neg]
        rintro ⟨_, h⟩
        have h4 : n * 10 + (c.toNat - 48) ≤ foldV n (c :: r) := foldV_le r _
        omega
    · rw [numGo_bad _ _ _ _ (Bool.eq_false_iff.2 hd), if_neg]
      rintro ⟨h, _⟩
      unfold allDig at h
      rw [List.all_cons, Bool.and_eq_true] at h
      exact hd h.1

/-- The reference's way. -/
def numRef (l : List UInt8) : Option Nat :=
  if l.length < 1 ∨ l.length > 9 ∨ (l.length > 1 ∧ l.head? = some 48) then none
  else if allDig l = true ∧ foldV 0 l ≤ 9999 then some (foldV 0 l) else none

theorem numGo_ref (l : List UInt8) : numGo 0 true l = numRef l := by
  cases l with
  | nil => rfl
  | cons c r =>
    unfold numRef
    by_cases hd : digB c.toNat = true
    · have hc : 48 ≤ c.toNat ∧ c.toNat ≤ 57 := by unfold digB at hd; simp at hd; omega
      rw [numGo_on 0 true c r hd (by simp) (by omega)]
      have e1 : allDig (c :: r) = allDig r := by unfold allDig; rw [List.all_cons, hd]; rfl
      have e2 : foldV 0 (c :: r) = foldV (c.toNat - 48) r := by unfold foldV; rw [List.foldl_cons]; simp
      by_cases h0 : c.toNat = 48
      · have hc48 : c = 48 := by apply UInt8.toNat_inj.1; simpa using h0
        cases r with
        | nil => subst hc48; decide
        | cons c2 r2 =>
          have e0 : 0 * 10 + (c.toNat - 48) = 0 := by omega
          rw [e0, numGo_zero, if_pos]
          right; right
          exact ⟨by simp, by rw [hc48]; rfl⟩
      · have hne : ¬ (c :: r).head? = some 48 := by
          intro h
          have : c = 48 := by simpa using h
          subst this
          exact h0 rfl
        have e0 : 0 * 10 + (c.toNat - 48) = c.toNat - 48 := by omega
        rw [e0, numGo_pos r _ (by omega) (by omega), e1, e2]
        by_cases h9 : (c :: r).length > 9
        · rw [if_pos (Or.inr (Or.inl h9)), if_neg]
          rintro ⟨_, h⟩
          have hp := foldV_pow r (c.toNat - 48)
          have h10 : 10 ^ 9 ≤ 10 ^ r.length := Nat.pow_le_pow_right (by omega) (by rw [List.length_cons] at h9; omega)
          have h11 : 1 * 10 ^ r.length ≤ (c.toNat - 48) * 10 ^ r.length := Nat.mul_le_mul_right _ (by omega)
          omega
        · rw [if_neg (c := (c :: r).length < 1 ∨ _)]
          rintro (h | h | h)
          · simp at h
          · exact h9 h
          · exact hne h.2
    · rw [numGo_bad _ _ _ _ (Bool.eq_false_iff.2 hd)]
      have e1 : ¬ (allDig (c :: r) = true ∧ foldV 0 (c :: r) ≤ 9999) := by
        rintro ⟨h, _⟩
        unfold allDig at h
        rw [List.all_cons, Bool.and_eq_true] at h
        exact hd h.1
      rw [if_neg e1]
      split <;> rfl

/-! ### The digits of a number denote it -/
theorem dig_of (k : Nat) (h : k < 10) : (UInt8.ofNat (48 + k)).toNat = 48 + k := by
  rw [UInt8.toNat_ofNat']; omega
theorem foldV_append (l r : List UInt8) (n : Nat) : foldV n (l ++ r) = foldV (foldV n l) r := by unfold foldV; rw [List.foldl_append]
theorem allDig_append (l r : List UInt8) : allDig (l ++ r) = (allDig l && allDig r) := by unfold allDig; rw [List.all_append]
theorem digB_of (k : Nat) (h : k < 10) : digB (UInt8.ofNat (48 + k)).toNat = true := by
  rw [dig_of k h]; unfold digB; simp; omega
theorem dec_fold (u : Nat) : allDig (Lib.decDigits u) = true ∧ foldV 0 (Lib.decDigits u) = u := by
  induction u using Nat.strongRecOn with
  | _ u ih =>
    rw [Lib.decDigits]
    by_cases h : u < 10
    · rw [dif_pos h]
      refine ⟨by unfold allDig; rw [List.all_cons, digB_of u h]; rfl, ?_⟩
      show 0 * 10 + ((UInt8.ofNat (48 + u)).toNat - 48) = u
      rw [dig_of u h]; omega
    · rw [dif_neg h]
      obtain ⟨i1, i2⟩ := ih (u / 10) (by omega)
      refine ⟨by rw [allDig_append, i1]; unfold allDig; rw [List.all_cons, digB_of _ (by omega)]; rfl, ?_⟩
      rw [foldV_append, i2]
      show u / 10 * 10 + ((UInt8.ofNat (48 + u % 10)).toNat - 48) = u
      rw [dig_of _ (by omega)]; omega
theorem dec_head (u : Nat) (h : 1 ≤ u) : ∃ (d : Nat) (r : List UInt8), 1 ≤ d ∧ d < 10 ∧ Lib.decDigits u = UInt8.ofNat (48 + d) :: r := by
  induction u using Nat.strongRecOn with
  | _ u ih =>
    rw [Lib.decDigits]
    by_cases h10 : u < 10
    · rw [dif_pos h10]; exact ⟨u, [], h, h10, rfl⟩
    · rw [dif_neg h10]
      obtain ⟨d, r, h1, h2, e⟩ := ih (u / 10) (by omega) (by omega)
      exact ⟨d, r ++ [UInt8.ofNat (48 + u % 10)], h1, h2, by rw [e]; rfl⟩

theorem num_dec (u : Nat) : numGo 0 true (Lib.decDigits u) = if u ≤ 9999 then some u else none := by
  by_cases h0 : u = 0
  · subst h0
    rw [Lib.decDigits, dif_pos (by omega)]; decide
  · obtain ⟨hA, hF⟩ := dec_fold u
    obtain ⟨d, r, h1, h2, e⟩ := dec_head u (by omega)
    rw [e] at hA hF ⊢
    have hd := digB_of d h2
    rw [numGo_on 0 true _ r hd (by simp) (by rw [dig_of d h2]; omega)]
    have e1 : allDig r = true := by unfold allDig at hA ⊢; rw [List.all_cons, Bool.and_eq_true] at hA; exact hA.2
    have e2 : foldV (0 * 10 + ((UInt8.ofNat (48 + d)).toNat - 48)) r = u := hF
    rw [numGo_pos r _ (by rw [dig_of d h2]; omega) (by rw [dig_of d h2]; omega), e1, e2]
    simp
theorem num_neg (l : List UInt8) : numGo 0 true (45 :: l) = none := numGo_bad _ _ _ _ (by decide)
end Go.Proofs.YtndjdmbbndcohaaDoor
