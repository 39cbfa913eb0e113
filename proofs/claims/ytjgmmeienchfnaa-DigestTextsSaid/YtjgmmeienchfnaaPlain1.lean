/-
  Plain mathematics for chapter 1 (names, words, numbers, digits, pieces): Boolean and list functions on bytes that say what the functions of package ident and of the document's own answer compute. No program is named here.
-/
import Derived.Below
namespace Go.Proofs.Ytjgmmeienchfnaa
open Go.RowKit

/-! ### Letters and digits -/
def letB (r : Int) : Bool := decide (97 ≤ r ∧ r ≤ 122)
def digB (r : Int) : Bool := decide (48 ≤ r ∧ r ≤ 57)

/-! ### Names -/
def nameGo : Bool → Int → List UInt8 → Bool
  | _, last, [] => decide (last ≠ 45)
  | first, last, c :: r =>
    if letB c.toNat then nameGo false c.toNat r
    else if digB c.toNat then (if first then false else nameGo false c.toNat r)
    else if (c.toNat : Int) = 45 then (if last = 45 then false else nameGo false c.toNat r)
    else false
def nameB (s : ByteArray) : Bool := decide (s.size ≤ 16) && nameGo true 45 s.data.toList

theorem nameGo_let (f : Bool) (l : Int) (c : UInt8) (r : List UInt8) (h : letB c.toNat = true) : nameGo f l (c :: r) = nameGo false c.toNat r := by
  rw [nameGo, if_pos h]
theorem nameGo_dig (f : Bool) (l : Int) (c : UInt8) (r : List UInt8) (h : letB c.toNat = false) (h2 : digB c.toNat = true) : nameGo f l (c :: r) = if f then false else nameGo false c.toNat r := by
  rw [nameGo, if_neg (by simp [h]), if_pos h2]
theorem nameGo_dash (f : Bool) (l : Int) (c : UInt8) (r : List UInt8) (h : letB c.toNat = false) (h2 : digB c.toNat = false) (h3 : (c.toNat : Int) = 45) : nameGo f l (c :: r) = if l = 45 then false else nameGo false c.toNat r := by
  rw [nameGo, if_neg (by simp [h]), if_neg (by simp [h2]), if_pos h3]
theorem nameGo_else (f : Bool) (l : Int) (c : UInt8) (r : List UInt8) (h : letB c.toNat = false) (h2 : digB c.toNat = false) (h3 : ¬ (c.toNat : Int) = 45) : nameGo f l (c :: r) = false := by
  rw [nameGo, if_neg (by simp [h]), if_neg (by simp [h2]), if_neg h3]

/-- The reference's loop from the second byte on. -/
def nameRef : Int → List UInt8 → Bool
  | _, [] => true
  | last, c :: r => (letB c.toNat || digB c.toNat || decide ((c.toNat : Int) = 45)) && !(decide ((c.toNat : Int) = 45) && decide (last = 45)) && nameRef c.toNat r
def lastOf : Int → List UInt8 → Int
  | last, [] => last
  | _, c :: r => lastOf c.toNat r

theorem nameRef_ok (p : Int) (c : UInt8) (r : List UInt8) (h : (letB c.toNat || digB c.toNat || decide ((c.toNat : Int) = 45)) = true) (h2 : (decide ((c.toNat : Int) = 45) && decide (p = 45)) = false) : nameRef p (c :: r) = nameRef c.toNat r := by
  rw [nameRef, h, h2]; rfl
theorem nameRef_bad (p : Int) (c : UInt8) (r : List UInt8) (h : (letB c.toNat || digB c.toNat || decide ((c.toNat : Int) = 45)) = false) : nameRef p (c :: r) = false := by
  rw [nameRef, h]; rfl
theorem nameRef_two (p : Int) (c : UInt8) (r : List UInt8) (h : (c.toNat : Int) = 45) (h2 : p = 45) : nameRef p (c :: r) = false := by
  rw [nameRef]; simp [h, h2]
theorem nameGo_ref (l : List UInt8) : ∀ last : Int, nameGo false last l = (nameRef last l && decide (lastOf last l ≠ 45)) := by
  induction l with
  | nil => intro last; by_cases h : last = 45 <;> simp [nameGo, nameRef, lastOf, h]
  | cons c r ih =>
    intro last
    unfold nameGo nameRef lastOf
    rw [ih]
    by_cases h1 : letB c.toNat = true
    · have hc : ¬ (c.toNat : Int) = 45 := by unfold letB at h1; simp at h1; omega
      simp [h1, hc]
    · by_cases h2 : digB c.toNat = true
      · have hc : ¬ (c.toNat : Int) = 45 := by unfold digB at h2; simp at h2; omega
        simp [h1, h2, hc]
      · by_cases h3 : (c.toNat : Int) = 45
        · have e1 : letB 45 = false := by decide
          have e2 : digB 45 = false := by decide
          by_cases h4 : last = 45 <;> simp [h3, h4, e1, e2]
        · simp [h1, h2, h3]

theorem drop_cons (s : ByteArray) (k : Nat) (h : k < s.size) : s.data.toList.drop k = s[k] :: s.data.toList.drop (k + 1) := by
  rw [List.drop_eq_getElem_cons (by simpa using h)]; rfl
theorem drop_end (s : ByteArray) (k : Nat) (h : ¬ k < s.size) : s.data.toList.drop k = [] := by
  rw [List.drop_eq_nil_iff]; simp; omega

theorem lastOf_get (s : ByteArray) (h : 0 < s.size) : lastOf (s[0].toNat : Int) (s.data.toList.drop 1) = (s[s.size - 1].toNat : Int) := by
  have gen : ∀ (n k : Nat) (hk : k < s.size), k + n + 1 = s.size → lastOf (s[k].toNat : Int) (s.data.toList.drop (k + 1)) = (s[s.size - 1].toNat : Int) := by
    intro n
    induction n with
    | zero =>
      intro k hk e
      rw [drop_end s (k + 1) (by omega)]
      have : k = s.size - 1 := by omega
      subst this
      rfl
    | succ n ih =>
      intro k hk e
      rw [drop_cons s (k + 1) (by omega)]
      exact ih (k + 1) (by omega) (by omega)
  exact gen (s.size - 1) 0 h (by omega)

theorem nameB_ref (s : ByteArray) (h : 0 < s.size) (h16 : s.size ≤ 16) :
    nameB s = (letB s[0].toNat && !(decide ((s[s.size - 1].toNat : Int) = 45)) && nameRef s[0].toNat (s.data.toList.drop 1)) := by
  unfold nameB
  have e : s.data.toList = s[0] :: s.data.toList.drop 1 := by have := drop_cons s 0 h; simpa using this
  rw [e]
  unfold nameGo
  rw [nameGo_ref, ← e, lastOf_get s h]
  by_cases h1 : letB s[0].toNat = true
  · simp [h1, h16, Bool.and_comm]
  · by_cases h2 : digB s[0].toNat = true <;> simp [h1, h2, h16]

/-! ### Words -/
def wordGo : List UInt8 → Bool
  | [] => true
  | c :: r => (letB c.toNat || digB c.toNat || decide ((c.toNat : Int) = 95)) && wordGo r
def wdB (r : Int) : Bool := letB r || digB r || decide (r = 95)
theorem wordGo_ok (c : UInt8) (r : List UInt8) (h : wdB c.toNat = true) : wordGo (c :: r) = wordGo r := by
  unfold wdB at h
  rw [wordGo, h]; rfl
theorem wordGo_bad (c : UInt8) (r : List UInt8) (h : wdB c.toNat = false) : wordGo (c :: r) = false := by
  unfold wdB at h
  rw [wordGo, h]; rfl
def wordB (s : ByteArray) : Bool := decide (1 ≤ s.size ∧ s.size ≤ 12) && wordGo s.data.toList

end Go.Proofs.Ytjgmmeienchfnaa
