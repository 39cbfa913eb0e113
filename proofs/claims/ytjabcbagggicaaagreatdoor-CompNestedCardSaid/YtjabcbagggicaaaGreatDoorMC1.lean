/-
  What the statements' proofs lean on, part 1: each part begins with a remark that says what it proves and on what conditions.
-/
import Derived.Below
import Derived.Lib.ItoaNum
import Derived.Lib.ItoaMem
import Derived.Lib.MapLaws
import Derived.Lib.TrimUEq
import Derived.Lib.CutLaws
import Derived.WalkKit
import Derived.Deep.Draws
import Derived.Sort.Grow
import Derived.Laws.AppendOwn
import Derived.Lib.Hide
import Derived.Test.YtjabcbagggicaaaGreatDoorProg
import Derived.Shelf.Strings.Builder1
import Derived.Shelf.Small.Bits
import Derived.Shelf.Small.Strs
import Derived.Shelf.Small.Wraps
import Derived.Shelf.Strings.BuilderF
import Derived.Shelf.Strings.BuilderK
import Derived.Shelf.Strconv.Itoa0
import Derived.Shelf.Strconv.Itoa1
import Derived.Shelf.LaysM
import Derived.Shelf.Strconv.Itoa2
import Derived.Shelf.Strconv.Itoa3
import Derived.Shelf.Strconv.Clone
import Derived.Shelf.Strings.Search1
import Derived.Shelf.Strings.Search2
import Derived.Shelf.Strings.Search3
import Derived.Shelf.Strings.Cut
import Derived.Shelf.Strings.Count
import Derived.Shelf.Strings.Shaped
import Derived.Shelf.Strings.Prefix
import Derived.Shelf.Strings.Split
import Derived.Shelf.Strings.SplitShaped
import Derived.Shelf.Unicode.DecodeSlow
import Derived.Ground.SlgnProg
import Derived.Shelf.SlicesE.Clone
import Derived.Ground.SlsfProg
import Derived.Shelf.SlSortCmp.InsertionK
import Derived.Shelf.SlSortCmp.SiftDownK
import Derived.Shelf.SlSortCmp.HeapSortK
import Derived.Shelf.SlSortCmp.MedianK
import Derived.Shelf.SlSortCmp.PivotK
import Derived.Shelf.SlSortCmp.ReverseRangeK
import Derived.Shelf.SlSortCmp.PartialInsertionK
import Derived.Shelf.SlSortCmp.PartitionEqualK
import Derived.Shelf.SlSortCmp.PartitionK
import Derived.Shelf.SlSortCmp.PdqK
import Derived.Shelf.SlSortCmp.WholeK
import Derived.Shelf.SlSortCmp.NoneTotal
import Derived.Shelf.RegionOpenPlain
import Derived.IntWalk
import Derived.Lib.Strings
import Derived.Laws.Rows
import Derived.Outline
import Derived.Deep.LoopGhost
import Derived.Lib.OthersKept
import Derived.Lib.Slices
import Derived.Lib.Walk
import Derived.Lib.Builder
import Derived.Lib.AppendStr
import Derived.Lib.UnsafeStr
import Derived.Laws.Externs
import Derived.Lib.AppendIntMem
import Derived.Lib.ItoaLen
import Derived.Deep.Quiet
import Derived.BigQuiet
import Derived.Laws.CopyRow
import Derived.Deep.RegionHeld3
import Derived.Laws.Slices
import Derived.Laws.MakeOwn
import Derived.Lib.BufferWrite

section
/-
  Plain mathematics for chapter 1 (names, words, numbers, digits, pieces): Boolean and list functions on bytes that say what the functions of package ident and of the document's own answer compute. No program is named here.
-/
namespace Go.Proofs.YtjabcbagggicaaaGreatDoor
open Go.RowKit

/-! ### Letters and digits -/
def letB (r : Int) : Bool := decide (97 ≤ r ∧ r ≤ 122)
def digB (r : Int) : Bool := decide (48 ≤ r ∧ r ≤ 57)

/-! ### Names -/
def nameGo : Bool → Int → List UInt8 → Bool
  | _, last, [] => decide (last ≠ 45)
  | first, last, c :: r =>
    if letB c.toNat then nameGo false c.toNat r
    else if digB c.toNat then (if first then false else nameGo false c.toNat r)
    else if (c.toNat : Int) = 45 then (if last = 45 then false else nameGo false c.toNat r)
    else false
def nameB (s : ByteArray) : Bool := decide (s.size ≤ 16) && nameGo true 45 s.data.toList

/-- The reference's loop from the second byte on. -/
def nameRef : Int → List UInt8 → Bool
  | _, [] => true
  | last, c :: r => (letB c.toNat || digB c.toNat || decide ((c.toNat : Int) = 45)) && !(decide ((c.toNat : Int) = 45) && decide (last = 45)) && nameRef c.toNat r
def lastOf : Int → List UInt8 → Int
  | last, [] => last
  | _, c :: r => lastOf c.toNat r

theorem drop_cons (s : ByteArray) (k : Nat) (h : k < s.size) : s.data.toList.drop k = s[k] :: s.data.toList.drop (k + 1) := by
  rw [List.drop_eq_getElem_cons (by simpa using h)]; rfl
theorem drop_end (s : ByteArray) (k : Nat) (h : ¬ k < s.size) : s.data.toList.drop k = [] := by
  rw [List.drop_eq_nil_iff]; simp; omega

/-! ### Words -/
def wordGo : List UInt8 → Bool
  | [] => true
  | c :: r => (letB c.toNat || digB c.toNat || decide ((c.toNat : Int) = 95)) && wordGo r
def wdB (r : Int) : Bool := letB r || digB r || decide (r = 95)
def wordB (s : ByteArray) : Bool := decide (1 ≤ s.size ∧ s.size ≤ 12) && wordGo s.data.toList

end Go.Proofs.YtjabcbagggicaaaGreatDoor
end

section
/-
  Plain mathematics for chapter 1: which number a string of bytes denotes, computed digit by digit with an early end (package ident) and at once (the document's own answer): the two agree; and the digits of a number denote it.
-/
namespace Go.Proofs.YtjabcbagggicaaaGreatDoor
open Go.RowKit

def numGo : Nat → Bool → List UInt8 → Option Nat
  | n, first, [] => if first then none else some n
  | n, first, c :: r =>
    if digB c.toNat then
      (if first = false ∧ n = 0 then none
       else if n * 10 + (c.toNat - 48) ≤ 9999 then numGo (n * 10 + (c.toNat - 48)) false r else none)
    else none
def numB (s : ByteArray) : Option Nat := numGo 0 true s.data.toList
def numV (s : ByteArray) : Int := ((numB s).getD 0 : Nat)
def numOk (s : ByteArray) : Bool := (numB s).isSome

theorem numGo_bad (n : Nat) (f : Bool) (c : UInt8) (r : List UInt8) (h : digB c.toNat = false) : numGo n f (c :: r) = none := by
  rw [numGo, if_neg (by simp [h])]
theorem numGo_zero (c : UInt8) (r : List UInt8) : numGo 0 false (c :: r) = none := by
  rw [numGo]; simp
theorem numGo_big (n : Nat) (f : Bool) (c : UInt8) (r : List UInt8) (h3 : ¬ n * 10 + (c.toNat - 48) ≤ 9999) : numGo n f (c :: r) = none := by
  rw [numGo, if_neg h3]; simp
theorem numGo_on (n : Nat) (f : Bool) (c : UInt8) (r : List UInt8) (h : digB c.toNat = true) (h2 : ¬ (f = false ∧ n = 0)) (h3 : n * 10 + (c.toNat - 48) ≤ 9999) :
    numGo n f (c :: r) = numGo (n * 10 + (c.toNat - 48)) false r := by
  rw [numGo, if_pos h, if_neg h2, if_pos h3]

/-- All are digits; the value. -/
def allDig (l : List UInt8) : Bool := l.all fun c => digB c.toNat
def foldV (n : Nat) (l : List UInt8) : Nat := l.foldl (fun n c => n * 10 + (c.toNat - 48)) n
theorem foldV_le (l : List UInt8) : ∀ n, n ≤ foldV n l := by
  induction l with
  | nil => intro n; exact Nat.le_refl _
  | cons c r ih => intro n; exact Nat.le_trans (by omega) (ih (n * 10 + (c.toNat - 48)))
theorem foldV_pow (l : List UInt8) : ∀ n, n * 10 ^ l.length ≤ foldV n l := by
  induction l with
  | nil => intro n; simp [foldV]
  | cons c r ih =>
    intro n
    refine Nat.le_trans ?_ (ih (n * 10 + (c.toNat - 48)))
    rw [List.length_cons, Nat.pow_succ, Nat.mul_comm (10 ^ r.length) 10, ← Nat.mul_assoc]
    exact Nat.mul_le_mul_right _ (by omega)

theorem numGo_pos (l : List UInt8) : ∀ n, 1 ≤ n → n ≤ 9999 → numGo n false l = if allDig l = true ∧ foldV n l ≤ 9999 then some (foldV n l) else none := by
  induction l with
  | nil => intro n h1 h2; simp [numGo, allDig, foldV, h2]
  | cons c r ih =>
    intro n h1 h2
    by_cases hd : digB c.toNat = true
    · by_cases h3 : n * 10 + (c.toNat - 48) ≤ 9999
      · rw [numGo_on n false c r hd (by omega) h3, ih _ (by omega) h3]
        have e1 : allDig (c :: r) = allDig r := by unfold allDig; rw [List.all_cons, hd]; rfl
        rw [e1]; rfl
      · rw [numGo_big n false c r h3, if_neg]
        rintro ⟨_, h⟩
        have h4 : n * 10 + (c.toNat - 48) ≤ foldV n (c :: r) := foldV_le r _
        omega
    · rw [numGo_bad _ _ _ _ (Bool.eq_false_iff.2 hd), if_neg]
      rintro ⟨h, _⟩
      unfold allDig at h
      rw [List.all_cons, Bool.and_eq_true] at h
      exact hd h.1

/-- The reference's way. -/
def numRef (l : List UInt8) : Option Nat :=
  if l.length < 1 ∨ l.length > 9 ∨ (l.length > 1 ∧ l.head? = some 48) then none
  else if allDig l = true ∧ foldV 0 l ≤ 9999 then some (foldV 0 l) else none

theorem numGo_ref (l : List UInt8) : numGo 0 true l = numRef l := by
  cases l with
  | nil => rfl
  | cons c r =>
    unfold numRef
    by_cases hd : digB c.toNat = true
    · have hc : 48 ≤ c.toNat ∧ c.toNat ≤ 57 := by unfold digB at hd; simp at hd; omega
      rw [numGo_on 0 true c r hd (by simp) (by omega)]
      have e1 : allDig (c :: r) = allDig r := by unfold allDig; rw [List.all_cons, hd]; rfl
      have e2 : foldV 0 (c :: r) = foldV (c.toNat - 48) r := by unfold foldV; rw [List.foldl_cons]; simp
      by_cases h0 : c.toNat = 48
      · have hc48 : c = 48 := by apply UInt8.toNat_inj.1; simpa using h0
        cases r with
        | nil => subst hc48; decide
        | cons c2 r2 =>
          have e0 : 0 * 10 + (c.toNat - 48) = 0 := by omega
          rw [e0, numGo_zero, if_pos]
          right; right
          exact ⟨by simp, by rw [hc48]; rfl⟩
      · have hne : ¬ (c :: r).head? = some 48 := by
          intro h
          have : c = 48 := by simpa using h
          subst this
          exact h0 rfl
        have e0 : 0 * 10 + (c.toNat - 48) = c.toNat - 48 := by omega
        rw [e0, numGo_pos r _ (by omega) (by omega), e1, e2]
        by_cases h9 : (c :: r).length > 9
        · rw [if_pos (Or.inr (Or.inl h9)), if_neg]
          rintro ⟨_, h⟩
          have hp := foldV_pow r (c.toNat - 48)
          have h10 : 10 ^ 9 ≤ 10 ^ r.length := Nat.pow_le_pow_right (by omega) (by rw [List.length_cons] at h9; omega)
          have h11 : 1 * 10 ^ r.length ≤ (c.toNat - 48) * 10 ^ r.length := Nat.mul_le_mul_right _ (by omega)
          omega
        · rw [if_neg (c := (c :: r).length < 1 ∨ _)]
          rintro (h | h | h)
          · simp at h
          · exact h9 h
          · exact hne h.2
    · rw [numGo_bad _ _ _ _ (Bool.eq_false_iff.2 hd)]
      have e1 : ¬ (allDig (c :: r) = true ∧ foldV 0 (c :: r) ≤ 9999) := by
        rintro ⟨h, _⟩
        unfold allDig at h
        rw [List.all_cons, Bool.and_eq_true] at h
        exact hd h.1
      rw [if_neg e1]
      split <;> rfl

/-! ### The digits of a number denote it -/
theorem dig_of (k : Nat) (h : k < 10) : (UInt8.ofNat (48 + k)).toNat = 48 + k := by
  rw [UInt8.toNat_ofNat']; omega
theorem foldV_append (l r : List UInt8) (n : Nat) : foldV n (l ++ r) = foldV (foldV n l) r := by unfold foldV; rw [List.foldl_append]
theorem allDig_append (l r : List UInt8) : allDig (l ++ r) = (allDig l && allDig r) := by unfold allDig; rw [List.all_append]
theorem digB_of (k : Nat) (h : k < 10) : digB (UInt8.ofNat (48 + k)).toNat = true := by
  rw [dig_of k h]; unfold digB; simp; omega
theorem dec_fold (u : Nat) : allDig (Lib.decDigits u) = true ∧ foldV 0 (Lib.decDigits u) = u := by
  induction u using Nat.strongRecOn with
  | _ u ih =>
    rw [Lib.decDigits]
    by_cases h : u < 10
    · rw [dif_pos h]
      refine ⟨by unfold allDig; rw [List.all_cons, digB_of u h]; rfl, ?_⟩
      show 0 * 10 + ((UInt8.ofNat (48 + u)).toNat - 48) = u
      rw [dig_of u h]; omega
    · rw [dif_neg h]
      obtain ⟨i1, i2⟩ := ih (u / 10) (by omega)
      refine ⟨by rw [allDig_append, i1]; unfold allDig; rw [List.all_cons, digB_of _ (by omega)]; rfl, ?_⟩
      rw [foldV_append, i2]
      show u / 10 * 10 + ((UInt8.ofNat (48 + u % 10)).toNat - 48) = u
      rw [dig_of _ (by omega)]; omega
theorem dec_head (u : Nat) (h : 1 ≤ u) : ∃ (d : Nat) (r : List UInt8), 1 ≤ d ∧ d < 10 ∧ Lib.decDigits u = UInt8.ofNat (48 + d) :: r := by
  induction u using Nat.strongRecOn with
  | _ u ih =>
    rw [Lib.decDigits]
    by_cases h10 : u < 10
    · rw [dif_pos h10]; exact ⟨u, [], h, h10, rfl⟩
    · rw [dif_neg h10]
      obtain ⟨d, r, h1, h2, e⟩ := ih (u / 10) (by omega) (by omega)
      exact ⟨d, r ++ [UInt8.ofNat (48 + u % 10)], h1, h2, by rw [e]; rfl⟩

theorem num_dec (u : Nat) : numGo 0 true (Lib.decDigits u) = if u ≤ 9999 then some u else none := by
  by_cases h0 : u = 0
  · subst h0
    rw [Lib.decDigits, dif_pos (by omega)]; decide
  · obtain ⟨hA, hF⟩ := dec_fold u
    obtain ⟨d, r, h1, h2, e⟩ := dec_head u (by omega)
    rw [e] at hA hF ⊢
    have hd := digB_of d h2
    rw [numGo_on 0 true _ r hd (by simp) (by rw [dig_of d h2]; omega)]
    have e1 : allDig r = true := by unfold allDig at hA ⊢; rw [List.all_cons, Bool.and_eq_true] at hA; exact hA.2
    have e2 : foldV (0 * 10 + ((UInt8.ofNat (48 + d)).toNat - 48)) r = u := hF
    rw [numGo_pos r _ (by rw [dig_of d h2]; omega) (by rw [dig_of d h2]; omega), e1, e2]
    simp
end Go.Proofs.YtjabcbagggicaaaGreatDoor
end

section
/-
  Plain mathematics for chapter 1: how many bytes the first rune of a string takes; the pieces of a string at a byte, and what joins them again.
-/
namespace Go.Proofs.YtjabcbagggicaaaGreatDoor
open Go.RowKit

/-! ### Pieces -/
def splitL (b : UInt8) : List UInt8 → List UInt8 → List (List UInt8)
  | acc, [] => [acc]
  | acc, c :: r => if c = b then acc :: splitL b [] r else splitL b (acc ++ [c]) r
def joinL (b : UInt8) : List (List UInt8) → List UInt8
  | [] => []
  | [x] => x
  | x :: y :: r => x ++ b :: joinL b (y :: r)

theorem splitL_ne (b : UInt8) (l : List UInt8) : ∀ acc, splitL b acc l ≠ [] := by
  induction l with
  | nil => intro acc; simp [splitL]
  | cons c r ih => intro acc; unfold splitL; split <;> simp [ih]
theorem join_split (b : UInt8) (l : List UInt8) : ∀ acc, joinL b (splitL b acc l) = acc ++ l := by
  induction l with
  | nil => intro acc; simp [splitL, joinL]
  | cons c r ih =>
    intro acc
    unfold splitL
    by_cases h : c = b
    · rw [if_pos h]
      have hne := splitL_ne b r []
      cases hs : splitL b [] r with
      | nil => exact absurd hs hne
      | cons y t =>
        rw [joinL, ← hs, ih [], h]; rfl
    · rw [if_neg h, ih, List.append_assoc]; rfl
theorem split_len (b : UInt8) (l : List UInt8) : ∀ acc, (splitL b acc l).length = (l.filter (· == b)).length + 1 := by
  induction l with
  | nil => intro acc; rfl
  | cons c r ih =>
    intro acc
    unfold splitL
    by_cases h : c = b
    · rw [if_pos h, List.length_cons, ih, List.filter_cons, if_pos (by simp [h]), List.length_cons]
    · rw [if_neg h, ih, List.filter_cons, if_neg (by simp [h])]
theorem split_le (b : UInt8) (l : List UInt8) : ∀ acc, ∀ x ∈ splitL b acc l, x.length ≤ acc.length + l.length := by
  induction l with
  | nil => intro acc x hx; simp [splitL] at hx; subst hx; simp
  | cons c r ih =>
    intro acc x hx
    unfold splitL at hx
    by_cases h : c = b
    · rw [if_pos h] at hx
      rcases List.mem_cons.1 hx with rfl | hx
      · omega
      · have := ih [] x hx; simp at this ⊢; omega
    · rw [if_neg h] at hx
      have := ih (acc ++ [c]) x hx
      simp at this ⊢; omega
end Go.Proofs.YtjabcbagggicaaaGreatDoor
end

section
/-
  Plain mathematics for chapter 2: tags, lists of tags (read piece by piece with an early end, and at once), cutting a string at its first byte of a kind.
-/
namespace Go.Proofs.YtjabcbagggicaaaGreatDoor
open Go.RowKit

def tagC (c : UInt8) : Bool := letB c.toNat || digB c.toNat || decide ((c.toNat : Int) = 45)
def tagOk (t : List UInt8) : Bool := decide (1 ≤ t.length ∧ t.length ≤ 8) && t.all tagC
def numer (t : List UInt8) : Bool := !t.isEmpty && allDig t
def numI (t : List UInt8) : Bool := (numGo 0 true t).isSome
def pcs (s : List UInt8) : List (List UInt8) := splitL 46 [] s
def listOk (s : List UInt8) : Bool := s.isEmpty || (decide ((pcs s).length ≤ 4) && (pcs s).all tagOk)
def preT (t : List UInt8) : Bool := !numer t || numI t
def preOk (s : List UInt8) : Bool := listOk s && (s.isEmpty || (pcs s).all preT)

/-- Cut at the first byte b. -/
def cutAt (b : UInt8) : List UInt8 → List UInt8 × List UInt8 × Bool
  | [] => ([], [], false)
  | c :: r => if c = b then ([], r, true) else ((c :: (cutAt b r).1), (cutAt b r).2.1, (cutAt b r).2.2)
theorem cutAt_cut (b : UInt8) (l : List UInt8) : Lib.cut l [b] = cutAt b l := by
  induction l with
  | nil => rfl
  | cons c r ih =>
    have hge := Lib.index_ge r [b]
    unfold Lib.cut at ih ⊢
    unfold cutAt
    rw [Lib.index]
    by_cases h : c = b
    · subst h; simp
    · have e1 : ([b].isPrefixOf (c :: r)) = false := by simp [List.isPrefixOf]; exact fun e => h e.symm
      rw [e1, if_neg h, ← ih]
      by_cases hm : Lib.index r [b] = -1
      · rw [if_neg (by simp : ¬ (false = true))]; simp [hm]
      · have e3 : (if (Lib.index r [b] == -1) = true then (-1 : Int) else Lib.index r [b] + 1) = Lib.index r [b] + 1 := if_neg (by simpa using hm)
        rw [if_neg (by simp : ¬ (false = true)), e3, if_pos (by omega), if_pos (by omega)]
        have e2 : (Lib.index r [b] + 1).toNat = (Lib.index r [b]).toNat + 1 := by omega
        simp only [e2, List.take_succ_cons, List.length_cons, List.length_nil, Prod.mk.injEq, and_true, true_and]
        rw [show (Lib.index r [b]).toNat + 1 + (0 + 1) = ((Lib.index r [b]).toNat + (0 + 1)) + 1 from by omega, List.drop_succ_cons]
theorem cutAt_le (b : UInt8) (l : List UInt8) : (cutAt b l).1.length + (cutAt b l).2.1.length ≤ l.length := by
  induction l with
  | nil => simp [cutAt]
  | cons c r ih => unfold cutAt; split <;> simp <;> omega
theorem cutAt_split (b : UInt8) (l : List UInt8) : ∀ acc, splitL b acc l = (acc ++ (cutAt b l).1) :: (if (cutAt b l).2.2 then splitL b [] (cutAt b l).2.1 else []) := by
  induction l with
  | nil => intro acc; simp [splitL, cutAt]
  | cons c r ih =>
    intro acc
    rw [show splitL b acc (c :: r) = if c = b then acc :: splitL b [] r else splitL b (acc ++ [c]) r from rfl, show cutAt b (c :: r) = if c = b then ([], r, true) else ((c :: (cutAt b r).1), (cutAt b r).2.1, (cutAt b r).2.2) from rfl]
    by_cases h : c = b
    · rw [if_pos h, if_pos h]; simp
    · rw [if_neg h, if_neg h, ih]; simp
theorem cutAt_hit (b : UInt8) (x y : List UInt8) (h : b ∉ x) : cutAt b (x ++ b :: y) = (x, y, true) := by
  induction x with
  | nil => simp [cutAt]
  | cons c r ih =>
    simp at h
    rw [List.cons_append, cutAt, if_neg (fun e => h.1 e.symm), ih h.2]
theorem cutAt_miss (b : UInt8) (x : List UInt8) (h : b ∉ x) : cutAt b x = (x, [], false) := by
  induction x with
  | nil => simp [cutAt]
  | cons c r ih =>
    simp at h
    rw [cutAt, if_neg (fun e => h.1 e.symm), ih h.2]
/-- The list read tag by tag, at most n of them: the tags, and whether that was all. -/
def cutGo : Nat → List UInt8 → List (List UInt8) × Bool
  | 0, _ => ([], false)
  | n + 1, s =>
    if tagOk (cutAt 46 s).1 then
      (if (cutAt 46 s).2.2 then ((cutAt 46 s).1 :: (cutGo n (cutAt 46 s).2.1).1, (cutGo n (cutAt 46 s).2.1).2)
       else ([(cutAt 46 s).1], true))
    else ([], false)
theorem cutGo_ok (n : Nat) : ∀ s, (cutGo n s).2 = (decide ((pcs s).length ≤ n) && (pcs s).all tagOk) := by
  induction n with
  | zero =>
    intro s
    have := splitL_ne 46 s []
    have h : (pcs s).length ≠ 0 := by unfold pcs; simpa using this
    unfold cutGo
    simp [Nat.le_zero_eq, List.length_eq_zero_iff] at h ⊢
    intro e; exact absurd e h
  | succ n ih =>
    intro s
    have e := cutAt_split 46 s []
    rw [List.nil_append] at e
    unfold cutGo
    rw [show pcs s = _ from e]
    by_cases h : tagOk (cutAt 46 s).1 = true
    · rw [if_pos h]
      by_cases h2 : (cutAt 46 s).2.2 = true
      · rw [if_pos h2, if_pos h2]
        show (cutGo n (cutAt 46 s).2.1).2 = _
        rw [ih]; unfold pcs; simp [h]
      · rw [if_neg h2, if_neg h2]
        simp [h]
    · rw [if_neg h]; simp [h]
theorem cutGo_all (n : Nat) : ∀ s, (cutGo n s).2 = true → (cutGo n s).1 = pcs s := by
  induction n with
  | zero => intro s h; cases h
  | succ n ih =>
    intro s
    have e := cutAt_split 46 s []
    rw [List.nil_append] at e
    unfold cutGo
    rw [show pcs s = _ from e]
    by_cases h : tagOk (cutAt 46 s).1 = true
    · rw [if_pos h]
      by_cases h2 : (cutAt 46 s).2.2 = true
      · rw [if_pos h2, if_pos h2]
        intro h3
        show _ :: _ = _
        rw [ih _ h3]; rfl
      · rw [if_neg h2, if_neg h2]; intro _; rfl
    · rw [if_neg h]; intro h3; cases h3
theorem cutGo_len (n : Nat) : ∀ s, (cutGo n s).1.length ≤ n := by
  induction n with
  | zero => intro s; simp [cutGo]
  | succ n ih =>
    intro s
    unfold cutGo
    split
    · split
      · have := ih (cutAt 46 s).2.1; simp; exact this
      · simp
    · simp
theorem cutGo_le (n : Nat) : ∀ s, ∀ x ∈ (cutGo n s).1, tagOk x = true := by
  induction n with
  | zero => intro s x h; simp [cutGo] at h
  | succ n ih =>
    intro s x hx
    unfold cutGo at hx
    split at hx
    · rename_i h
      split at hx
      · rcases List.mem_cons.1 hx with rfl | hx
        · exact h
        · exact ih _ x hx
      · simp at hx; rw [hx]; exact h
    · simp at hx
/-- The four places that list fills. -/
def tg (l : List (List UInt8)) (i : Nat) : List UInt8 := (l[i]?).getD []
def lst (s : List UInt8) : List (List UInt8) × Bool := if s.isEmpty then ([], true) else cutGo 4 s
theorem lst_ok (s : List UInt8) : (lst s).2 = listOk s := by
  unfold lst listOk
  by_cases h : s.isEmpty = true
  · rw [if_pos h, h]; rfl
  · rw [if_neg h, Bool.eq_false_iff.2 h, Bool.false_or]; exact cutGo_ok 4 s
theorem lst_all (s : List UInt8) (h : listOk s = true) : (lst s).1 = if s.isEmpty then [] else pcs s := by
  rw [← lst_ok] at h
  unfold lst at h ⊢
  split
  · rfl
  · rename_i h2; rw [if_neg h2] at h; exact cutGo_all 4 s h
theorem lst_len (s : List UInt8) : (lst s).1.length ≤ 4 := by
  unfold lst; split
  · simp
  · exact cutGo_len 4 s
theorem lst_tag (s : List UInt8) : ∀ x ∈ (lst s).1, tagOk x = true := by
  unfold lst; split
  · intro x h; cases h
  · exact cutGo_le 4 s
theorem tagOk_len {t : List UInt8} (h : tagOk t = true) : 1 ≤ t.length ∧ t.length ≤ 8 := by
  unfold tagOk at h; simp at h; exact h.1
theorem tg_len (s : List UInt8) (i : Nat) : (tg (lst s).1 i).length ≤ 8 := by
  unfold tg
  cases h : (lst s).1[i]? with
  | none => simp
  | some x => exact (tagOk_len (lst_tag s x (List.mem_of_getElem? h))).2
theorem tg_all {p : List UInt8 → Bool} (hp : p [] = true) (l : List (List UInt8)) (h : l.length ≤ 4) : (p (tg l 0) && p (tg l 1) && p (tg l 2) && p (tg l 3)) = l.all p := by
  match l, h with
  | [], _ => simp [tg, hp]
  | [a], _ => simp [tg, hp]
  | [a, b], _ => simp [tg, hp]
  | [a, b, c], _ => simp [tg, hp, Bool.and_assoc]
  | [a, b, c, d], _ => simp [tg, Bool.and_assoc]
theorem preT_nil : preT [] = true := by decide
theorem preOk_lst (s : List UInt8) : preOk s = ((lst s).2 && (lst s).1.all preT) := by
  rw [lst_ok]
  unfold preOk
  by_cases h : listOk s = true
  · rw [h, Bool.true_and, Bool.true_and, lst_all s h]
    split
    · rename_i h2; rw [h2]; rfl
    · rename_i h2; rw [Bool.eq_false_iff.2 h2, Bool.false_or]
  · rw [Bool.eq_false_iff.2 h]; rfl
end Go.Proofs.YtjabcbagggicaaaGreatDoor
end

section
/-
  Below block number B the world is as it was, and the draws have not gone back (the library's Below and one field more). No condition.
-/
namespace Go.Proofs.YtjabcbagggicaaaGreatDoor
open Go.RowKit
set_option linter.unusedVariables false

structure Below (B : Nat) (w w' : World) : Prop where
  os : w'.os = w.os
  tape : w'.tape = w.tape
  output : w'.output = w.output
  size : w.heap.size ≤ w'.heap.size
  drawn : w.drawn ≤ w'.drawn
  block : ∀ k, k < B → w'.heap[k]? = w.heap[k]?

theorem Below.old {B : Nat} {w w' : World} (h : Below B w w') : Go.RowKit.Below B w w' := ⟨h.os, h.tape, h.output, h.size, h.block⟩
theorem Below.refl (B : Nat) (w : World) : Below B w w := ⟨rfl, rfl, rfl, Nat.le_refl _, Nat.le_refl _, fun _ _ => rfl⟩
theorem Below.trans {B : Nat} {a b c : World} (h : Below B a b) (k : Below B b c) : Below B a c :=
  ⟨k.os.trans h.os, k.tape.trans h.tape, k.output.trans h.output, Nat.le_trans h.size k.size, Nat.le_trans h.drawn k.drawn, fun i hi => (k.block i hi).trans (h.block i hi)⟩
theorem Below.mono {B B' : Nat} {w w' : World} (h : Below B w w') (hB : B' ≤ B) : Below B' w w' := ⟨h.os, h.tape, h.output, h.size, h.drawn, fun k hk => h.block k (Nat.lt_of_lt_of_le hk hB)⟩
theorem Below.drew {B : Nat} {a w : World} (h : Below B a w) : Below B a w.drew := ⟨h.os, h.tape, h.output, h.size, Nat.le_succ_of_le h.drawn, h.block⟩
theorem Below.heap_alloc (w : World) (o : Obj) (k : Nat) (h : k < w.heap.size) : (w.alloc o).heap[k]? = w.heap[k]? := Go.RowKit.Below.heap_alloc w o k h
theorem Below.heap_setCell (w : World) (a : Addr) (u : Value) (k : Nat) (h : k ≠ a.block) : (w.setCell a u).heap[k]? = w.heap[k]? := Go.RowKit.Below.heap_setCell w a u k h
theorem Below.alloc {B : Nat} {a w : World} (h : Below B a w) (hB : B ≤ w.heap.size) (o : Obj) : Below B a (w.alloc o) :=
  h.trans ⟨rfl, rfl, rfl, by simp, Nat.le_refl _, fun k hk => Below.heap_alloc _ _ _ (by omega)⟩
theorem Below.setCell {B : Nat} {a w : World} (h : Below B a w) {p : Addr} (hp : B ≤ p.block) (u : Value) : Below B a (w.setCell p u) :=
  h.trans ⟨rfl, rfl, rfl, by simp [World.setCell], Nat.le_refl _, fun k hk => Below.heap_setCell _ _ _ _ (by omega)⟩
theorem Below.cell {B : Nat} {w w' : World} (h : Below B w w') {p : Addr} (hp : p.block < B) : w'.cell? p = w.cell? p := h.old.cell hp
theorem Below.frozen {B : Nat} {w w' : World} (h : Below B w w') {p : Addr} (hp : p.block < B) : w'.frozen? p = w.frozen? p := h.old.frozen hp
theorem Below.frame {W w' : World} (h : Below W.heap.size W w') (may : MemPlace → Prop) : W.keptBut w' may := h.old.frame may
/-- What is below and has drawn on is what was, grown by blocks and draws. -/
theorem Below.asGrow {W w' : World} (h : Below W.heap.size W w') : ∃ q os', w' = Go.Sort.grow (W.drewN q) os' := by
  refine ⟨w'.drawn - W.drawn, w'.heap.extract W.heap.size w'.heap.size, ?_⟩
  have hh : w'.heap = W.heap ++ w'.heap.extract W.heap.size w'.heap.size := by
    apply Array.ext_getElem?
    intro i
    by_cases hi : i < W.heap.size
    · rw [Array.getElem?_append_left hi, h.block i hi]
    · rw [Array.getElem?_append_right (by omega), Array.getElem?_extract]
      by_cases h2 : i < w'.heap.size
      · rw [if_pos (by omega)]; congr 1; omega
      · rw [if_neg (by omega), Array.getElem?_eq_none (by omega)]
  have hd : w'.drawn = W.drawn + (w'.drawn - W.drawn) := by have := h.drawn; omega
  cases w' with
  | mk hp tp dr os ou =>
    have h1 := h.os; have h2 := h.tape; have h3 := h.output
    simp only at h1 h2 h3 hh hd
    subst h1 h2 h3
    show World.mk hp W.tape dr W.os W.output = World.mk (W.heap ++ _) W.tape (W.drawn + (dr - W.drawn)) W.os W.output
    rw [← hd]
    exact congrArg (fun x => World.mk x W.tape dr W.os W.output) hh

/-! ### What a run of the model's own monad does to the draws -/
theorem ask_drawn {α : Type} : ∀ (k : Ask α) (w : World), w.drawn ≤ (w.ask k).2.drawn
  | .done a, w => Nat.le_refl _
  | .ask what range k, w => by
    unfold World.ask
    dsimp only
    split
    · exact ask_drawn (k 0) w
    · exact Nat.le_trans (Nat.le_succ _) (ask_drawn (k ((Question.extern what range).cut (w.tape w.drawn (Question.extern what range)))) { w with drawn := w.drawn + 1 })
theorem sys_drawn (w : World) (c : Sys) : w.drawn ≤ (w.sys c).2.drawn := by
  unfold World.sys
  have h := ask_drawn (Kernel.perform c w.os) w
  split
  · exact Nat.le_refl _
  · rename_i r os w1 heq
    rw [heq] at h; exact h
theorem farStore_drawn {p : Program} {w w1 : World} {a : Addr} {v : Value} {b : Bool} {l : List Addr} (h : w.farStore p a v b = .ok (w1, l)) : w1.drawn = w.drawn := by
  unfold World.farStore at h
  split at h
  · split at h
    · rename_i r hr
      obtain rfl := Except.ok.inj h
      unfold World.viewStore at hr
      simp only [bind, Except.bind, pure, Except.pure] at hr
      repeat' (first | (cases hr; done) | (cases hr; rfl) | split at hr)
    · cases h
  · cases h
theorem run_drawn {α : Type} (p : Program) (s : Sem α) : ∀ (w : World) {a : α} {w' : World}, s.run p w = .ok a w' → w.drawn ≤ w'.drawn := by
  induction s with
  | pure a => intro w _ _ h; cases h; exact Nat.le_refl _
  | load m a k ih =>
    intro w a' w' h
    rw [Sem.run] at h
    split at h
    · exact ih _ _ h
    · split at h
      · exact ih _ _ h
      · cases h
  | store m a v k ih =>
    intro w a' w' h
    have h : (match w.cell? a with
      | some _ => if w.frozen? a then Result.halt (.unsupported (.unsafePointer "a write to bytes that a string shares")) w else k.run p (w.setCell a v)
      | none => match World.farStore p w a v (m == Mode.atomic) with
        | .ok (w, _) => k.run p w
        | .error h => Result.halt h w) = .ok a' w' := by cases v <;> first | exact h | cases h
    split at h
    · split at h
      · cases h
      · exact ih (w.setCell a v) h
    · split at h
      · rename_i w1 l hf
        have := ih w1 h
        rw [farStore_drawn hf] at this; exact this
      · cases h
  | new o k ih => intro w a' w' h; exact ih w.heap.size { w with heap := w.heap.push o } h
  | shape r k ih => intro w a' w' h; exact ih _ _ h
  | freeze a n k ih =>
    intro w a' w' h
    have := ih (w.freeze a n) h
    unfold World.freeze at this
    split at this <;> exact this
  | frozen a k ih => intro w a' w' h; exact ih _ _ h
  | getObj r k ih =>
    intro w a' w' h
    rw [Sem.run] at h
    split at h
    · cases h
    · exact ih _ _ h
    · cases h
  | setObj r o k ih =>
    intro w a' w' h
    have h : (match w.heap[r]? with | some (.cells ..) => Result.halt (.stuck "setObj: a row of cells") w | some _ => k.run p { w with heap := w.heap.setIfInBounds r o } | none => Result.halt (.stuck "setObj: no such block") w) = .ok a' w' := h
    split at h
    · cases h
    · exact ih { w with heap := w.heap.setIfInBounds r o } h
    · cases h
  | choose q k ih =>
    intro w a' w' h
    have h : (if q.forced then (k 0).run p w else (k (q.cut (w.tape w.drawn q))).run p { w with drawn := w.drawn + 1 }) = .ok a' w' := h
    split at h
    · exact ih _ _ h
    · exact Nat.le_trans (Nat.le_succ _) (ih _ { w with drawn := w.drawn + 1 } h)
  | sys c k ih => intro w a' w' h; exact Nat.le_trans (sys_drawn w c) (ih _ _ h)
  | program k ih => intro w a' w' h; exact ih _ _ h
  | mark m k ih => intro w a' w' h; exact ih _ h
  | halt e => intro w a' w' h; cases h
structure GrownD (w w' : World) (row : Option Nat) : Prop where
  old : w.grownBy w' row
  drawn : w.drawn ≤ w'.drawn
theorem Below.grown {B : Nat} {a w w' : World} {row : Option Nat} (h : Below B a w) (hg : GrownD w w' row) (hB : B ≤ w.heap.size) (hr : ∀ k, row = some k → B ≤ k) : Below B a w' :=
  have h2 := h.old.grown hg.old hB hr
  ⟨h2.os, h2.tape, h2.output, h2.size, Nat.le_trans h.drawn hg.drawn, h2.block⟩
theorem wpList_append_own {P : Program} (w : World) {ops : Array Oper} {rest : List Oper} {o : Oper} {a : Act} {Q : Exit → Act → World → Prop} (hgd : o.guard = none) (s x : Operand) (t : TypeId)
    (ho : o.op = .call { callee := .builtin .append, args := #[s, x], argTypes := #[t, t] })
    (base : Nat) (e : TypeId) (i : TypeInfo) (z : Value) (size bytes : Nat) (ht : P.underlying t = some (.slice e)) (hi : P.info? e = some i) (hz : i.zero = some z)
    (hsize : i.size = size) (hby : i.bytes = bytes) (hzs : z.cells.size = size) (hsz : 0 < size)
    (v : Value) (n : Nat) (xs : List Value) (hs : a.eval s = v) (hown : w.ownsRow base e size v n xs)
    (ad : Addr) (m c : Nat) (news : List Value) (hx : a.eval x = .slice (some ad) m c) (hl : news.length = m * size) (hnews : ∀ j u, news[j]? = some u → w.cell? (ad.add j) = some u) (h1 : ∀ u ∈ news, u.oneCell' = true)
    (h63 : n + m ≤ maxLen) (hbytes : (n + m) * bytes ≤ 140737488355328) (hbase : base ≤ w.heap.size)
    (h : ∀ v' w', w'.ownsRow base e size v' (n + m) (xs ++ news) → GrownD w w' v.ownBlock → (v' = .slice none 0 0 ↔ v = .slice none 0 0 ∧ m = 0) → wpList P ops Q rest (a.put o.dst v') w') : wpList P ops Q (o :: rest) a w := by
  refine wpList_plain hgd fun K hK => ?_
  obtain ⟨v', w', hr, h2, h3, h4⟩ := run_append_own (P := P) w base t o.type e i z size bytes ht hi hz hsize hby hzs hsz v n xs hown ad m c news hl hnews h1 h63 hbytes hbase
  have hd := run_drawn P _ _ hr
  unfold Oper.wp execOp
  simp only [ho, resolve, invoke, builtin, Sem.run_bind, Sem.run_pure, Result.andThen_ok, List.map_toArray, List.map_cons, List.map_nil, hs, hx, hr]
  exact hK _ _ (h v' w' h2 ⟨h3, hd⟩ h4)
end Go.Proofs.YtjabcbagggicaaaGreatDoor
end

section
/-
  Small contracts and facts that many texts need: digit of package ident and of the document's own answer. Conditions: none.
-/
namespace Go.Proofs.YtjabcbagggicaaaGreatDoor
open Go.RowKit

theorem ret_bool {a b : Bool} (h : a = b) : Ending.returned (.bool a) = .returned (.bool b) := by rw [h]

theorem ret_int {k : IntKind} {a b : Int} (h : a = b) : Ending.returned (.int k a) = .returned (.int k b) := by rw [h]

theorem letB_hi (n : Nat) (h : 128 ≤ n) : letB n = false := by unfold letB; simp; omega
theorem digB_hi (n : Nat) (h : 128 ≤ n) : digB n = false := by unfold digB; simp; omega
theorem letB_hi8 (c : UInt8) (h : 128 ≤ c.toNat) : letB c.toNat = false := letB_hi _ h
theorem digB_hi8 (c : UInt8) (h : 128 ≤ c.toNat) : digB c.toNat = false := digB_hi _ h
theorem beq_int_false {a b : Int} (h : ¬ a = b) : (a == b) = false := by simpa using h
theorem below_iter (w : World) (s : ByteArray) (pos : Nat) : Below w.heap.size w (w.iter s pos) := (Below.refl _ w).alloc (Nat.le_refl _) _

theorem digit_is (r : Int) (b : Bool) (hb : digB r = b) (w : World) :
    Calls Tryz.prog 72 #[.int .i32 r] w fun e w' => e = .returned (.bool b) ∧ w = w' := by
  subst hb
  unfold digB
  go_enter Tryz.func72, Tryz.ntmps72
  go_wp2
  all_goals go_ret
  all_goals exact ⟨ret_bool (by simp; try omega), rfl⟩

theorem rdigit_is (r : Int) (b : Bool) (hb : digB r = b) (w : World) :
    Calls Tryz.prog 115 #[.int .u8 r] w fun e w' => e = .returned (.bool b) ∧ w = w' := by
  subst hb
  unfold digB
  go_enter Tryz.func115, Tryz.ntmps115
  go_wp2
  all_goals go_ret
  all_goals exact ⟨ret_bool (by simp; try omega), rfl⟩

theorem below_drewN {B : Nat} {a w : World} (h : Below B a w) (n : Nat) : Below B a (w.drewN n) := ⟨h.os, h.tape, h.output, h.size, Nat.le_trans h.drawn (Nat.le_add_right _ _), h.block⟩
end Go.Proofs.YtjabcbagggicaaaGreatDoor
end

section
/-
  The document's own answer's Split: for every string of at most a million bytes and every byte it returns a new slice of the pieces that splitL names; nothing that was there is changed.
-/
namespace Go.Proofs.YtjabcbagggicaaaGreatDoor
open Go.RowKit

theorem infoStr : (Tryz.prog.info? 9).map (fun i => (i.zero, i.size, i.bytes)) = some (some (.string ByteArray.empty), 1, 16) := by kernel_rfl
def mkS (l : List UInt8) : ByteArray := ⟨l.toArray⟩
def strV (l : List (List UInt8)) : List Value := l.map fun x => .string (mkS x)
theorem strV_snoc (l : List (List UInt8)) (x : List UInt8) : strV (l ++ [x]) = strV l ++ [.string (mkS x)] := by unfold strV; rw [List.map_append]; rfl
theorem strV_length (l : List (List UInt8)) : (strV l).length = l.length := by unfold strV; rw [List.length_map]
theorem extract_mk (s : ByteArray) (f k : Nat) : s.extract f k = mkS ((s.data.toList.drop f).take (k - f)) := by
  unfold mkS
  apply ByteArray.ext
  apply Array.toList_inj.1
  rw [ByteArray.data_extract, Array.toList_extract, List.toList_toArray, List.extract_eq_take_drop]

theorem take_more (s : ByteArray) (f k : Nat) (hf : f ≤ k) (h : k < s.size) : (s.data.toList.drop f).take (k + 1 - f) = (s.data.toList.drop f).take (k - f) ++ [s[k]] := by
  rw [show k + 1 - f = k - f + 1 from by omega, List.take_succ_eq_append_getElem (by simp; omega)]
  congr 1
  simp [show f + (k - f) = k from by omega]
  rfl
theorem split_hit (b c : UInt8) (acc r : List UInt8) (h : c = b) : splitL b acc (c :: r) = acc :: splitL b [] r := by rw [splitL, if_pos h]
theorem split_miss (b c : UInt8) (acc r : List UInt8) (h : ¬ c = b) : splitL b acc (c :: r) = splitL b (acc ++ [c]) r := by rw [splitL, if_neg h]

def piecesOf (s : ByteArray) (b : UInt8) : List (List UInt8) := splitL b [] s.data.toList

set_option maxHeartbeats 2000000 in
theorem rsplit_any (s : ByteArray) (b : UInt8) (w : World) (hs : s.size ≤ 1000000) :
    Calls Tryz.prog 41 #[.string s, .int .u8 b.toNat] w fun e w' => ∃ v, e = .returned v ∧ w'.ownsRow w.heap.size 9 1 v (piecesOf s b).length (strV (piecesOf s b)) ∧ Below w.heap.size w w' := by
  obtain ⟨i0, hi, hz0, hz1, hz2⟩ := info_parts infoStr
  go_enter Tryz.func41, Tryz.ntmps41
  go_wp2
  go_loopw [5, 6, 7] (fun v fv iv wr => ∃ (k f : Nat) (P : List (List UInt8)), iv = .int .i64 k ∧ fv = .int .i64 f ∧ f ≤ k ∧ k ≤ s.size ∧ P.length ≤ k ∧ wr.ownsRow w.heap.size 9 1 v P.length (strV P) ∧ Below w.heap.size w wr ∧ Hid (P ++ splitL b ((s.data.toList.drop f).take (k - f)) (s.data.toList.drop k) = piecesOf s b)) (fun _ _ iv _ => s.size - (intOf iv).toNat)
  case atStart => exact ⟨0, 0, [], rfl, rfl, Nat.le_refl _, Nat.zero_le _, Nat.zero_le _, ⟨rfl, Or.inl ⟨rfl, rfl⟩⟩, Below.refl _ _, rfl⟩
  case round =>
    obtain ⟨k, f, P, rfl, rfl, hfk, hk, hP, hown, hb, HR⟩ := hrel
    have hsz := hb.size
    by_cases hp : k < s.size
    · have HD := Lib.hid (drop_cons s k hp)
      by_cases hc : s[k] = b
      · have HC := Lib.hid hc
        have hcb : ((s[k].toNat : Int) == (b.toNat : Int)) = true := by rw [hc]; simp
        clear hc
        go_wp2_with (at_builtin; refine wpList_append_own _ rfl _ _ 56 rfl w.heap.size 9 i0 (.string ByteArray.empty) 1 16 Tryz.underlying56 hi hz0 hz1 hz2 rfl (by decide) _ _ _ rfl (hown.alloc _) ⟨wr.heap.size, 0, none⟩ 1 1 [.string (s.extract f k)] rfl rfl ?c1 ?c2 ?c3 ?c4 ?c5 ?_)
        case c1 =>
          intro j u hj
          match j, hj with
          | 0, hj => simp at hj; subst hj; simp [Addr.add]
        case c2 => intro u hu; simp at hu; subst hu; rfl
        case c3 => unfold maxLen; omega
        case c4 => omega
        case c5 => simp; omega
        intro v' w2 hown' hgrow _
        go_wp2
        go_roundw
        case rel =>
          refine ⟨k + 1, k + 1, P ++ [(s.data.toList.drop f).take (k - f)], by go_num, by go_num, Nat.le_refl _, by omega, by simp; omega, ?_, (hb.alloc hsz _).grown hgrow (by simp; omega) (fun k hk => (hown.lt k hk).1), ?_⟩
          · rw [strV_snoc, ← extract_mk, List.length_append]; exact hown'
          · show _ = _
            rw [← HR.out, HD.out, split_hit _ _ _ _ HC.out, List.append_assoc, Nat.sub_self, List.take_zero]; rfl
        case measure => simp [intOf]; omega
      · have hcb : ((s[k].toNat : Int) == (b.toNat : Int)) = false := beq_int_false (fun e => hc (UInt8.toNat_inj.1 (by omega)))
        go_wp2
        go_roundw
        case rel => exact ⟨k + 1, f, P, by go_num, rfl, by omega, by omega, by omega, hown, hb, by show _ = _; rw [← HR.out, HD.out, split_miss _ _ _ _ hc, take_more s f k hfk hp]⟩
        case measure => simp [intOf]; omega
    · have hk2 : k = s.size := by omega
      have HD := Lib.hid (drop_end s k hp)
      have HE : Hid (P ++ [(s.data.toList.drop f).take (s.size - f)] = piecesOf s b) := by
        show _ = _
        rw [← HR.out, HD.out, hk2]; rfl
      clear hk2
      go_wp2_with (at_builtin; refine wpList_append_own _ rfl _ _ 56 rfl w.heap.size 9 i0 (.string ByteArray.empty) 1 16 Tryz.underlying56 hi hz0 hz1 hz2 rfl (by decide) _ _ _ rfl (hown.alloc _) ⟨wr.heap.size, 0, none⟩ 1 1 [.string (s.extract f s.size)] rfl rfl ?c1 ?c2 ?c3 ?c4 ?c5 ?_)
      case c1 =>
        intro j u hj
        match j, hj with
        | 0, hj => simp at hj; subst hj; simp [Addr.add]
      case c2 => intro u hu; simp at hu; subst hu; rfl
      case c3 => unfold maxLen; omega
      case c4 => omega
      case c5 => simp; omega
      intro v' w2 hown' hgrow _
      go_wp2
      go_ret
      refine ⟨v', rfl, ?_, (hb.alloc hsz _).grown hgrow (by simp; omega) (fun k hk => (hown.lt k hk).1)⟩
      rw [← HE.out, strV_snoc, ← extract_mk, List.length_append]; exact hown'
end Go.Proofs.YtjabcbagggicaaaGreatDoor
end

section
/-
  DERIVED: THE SHELF's CONTRACTS AT THIS DUMP, IN PLAIN WORDS (tools/lay-plain.mjs out of 'TryzShelf.lean', which tools/lay-shelf.mjs wrote): THE SAME DECLARATIONS UNDER THE SAME NAMES: 'import', 'namespace', 'open', 'def', 'theorem' AND NOTHING ELSE: no command of the shelf's: FOR A HAND-IN. Each laying: the table of numbers ('.._ren') and one theorem, a field a fact of the dump's own or the kernel's comparison; each contract: ONE APPLICATION.
-/
namespace Go.Proofs
open Go.Shelf
def Tryz.lays106_ren : Go.Shelf.Ren := ⟨fun | 106 => 132 | 213 => 149 | 265 => 168 | n => n, fun | 9 => 9 | 3 => 3 | n => n, fun | n => n⟩
theorem Tryz.lays106 : Go.Proofs.Lays.n106 Tryz.prog Tryz.lays106_ren := {
  mixed := by kernel_rfl
  f106 := Tryz.func132.trans (congrArg some (by kernel_rfl))
  f213 := Tryz.func149.trans (congrArg some (by kernel_rfl))
  f265 := Tryz.func168.trans (congrArg some (by kernel_rfl))
  t3 := Tryz.underlying3
  a3 := Tryz.isAgg3
  z3 := Tryz.sizeOf3
  v3 := Tryz.zeroValue3
  t9 := Tryz.underlying9
  a9 := Tryz.isAgg9
  z9 := Tryz.sizeOf9
  v9 := Tryz.zeroValue9 }
open Go.RowKit in
/-- strings.Compare: "Compare returns an integer comparing two strings lexicographically. The result will be 0 if a == b, -1 if a < b, and +1 if a > b.": IT RETURNS 'Lib.compareBytes a b'; the world is as it was. (LAID: no walk: one application.) -/
theorem Tryz.strings_Compare (a b : ByteArray) (w : World) :
    Calls Tryz.prog 132 #[.string a, .string b] w fun e w' => e = .returned (.int .i64 (Lib.compareBytes a.data.toList b.data.toList)) ∧ w' = w := Any.strings_Compare Tryz.lays106 a b w
def Tryz.lays103_ren : Go.Shelf.Ren := ⟨fun | 103 => 69 | 210 => 110 | 206 => 133 | n => n, fun | 9 => 9 | 4 => 4 | 24 => 90 | 3 => 3 | n => n, fun | n => n⟩
theorem Tryz.lays103 : Go.Proofs.Lays.n103 Tryz.prog Tryz.lays103_ren := {
  mixed := by kernel_rfl
  f103 := Tryz.func69.trans (congrArg some (by kernel_rfl))
  f206 := Tryz.func133.trans (congrArg some (by kernel_rfl))
  f210 := Tryz.func110.trans (congrArg some (by kernel_rfl))
  t3 := Tryz.underlying3
  a3 := Tryz.isAgg3
  z3 := Tryz.sizeOf3
  v3 := Tryz.zeroValue3
  t4 := Tryz.underlying4
  a4 := Tryz.isAgg4
  z4 := Tryz.sizeOf4
  v4 := Tryz.zeroValue4
  t9 := Tryz.underlying9
  a9 := Tryz.isAgg9
  z9 := Tryz.sizeOf9
  v9 := Tryz.zeroValue9
  t24 := Tryz.underlying90
  a24 := Tryz.isAgg90
  z24 := Tryz.sizeOf90
  v24 := Tryz.zeroValue90 }
open Go.RowKit in
/-- strings.CutPrefix: "CutPrefix returns s without the provided leading prefix string and reports whether it found the prefix. If s doesn't start with prefix, CutPrefix returns s, false. If prefix is the empty string, CutPrefix returns s, true.": IT RETURNS '(Lib.trimPrefix s p, Lib.hasPrefix s p)'; the world is as it was. (LAID: no walk: one application.) -/
theorem Tryz.strings_CutPrefix (s p : ByteArray) (w : World) :
    Calls Tryz.prog 69 #[.string s, .string p] w fun e w' => e = .returned (.tuple #[.string ⟨(Lib.trimPrefix s.data.toList p.data.toList).toArray⟩, .bool (Lib.hasPrefix s.data.toList p.data.toList)]) ∧ w' = w := Any.strings_CutPrefix Tryz.lays103 s p w
def Tryz.lays122_ren : Go.Shelf.Ren := ⟨fun | 122 => 64 | 215 => 106 | n => n, fun | 3 => 3 | 4 => 4 | n => n, fun | n => n⟩
theorem Tryz.lays122 : Go.Proofs.Lays.n122 Tryz.prog Tryz.lays122_ren := {
  mixed := by kernel_rfl
  f122 := Tryz.func64.trans (congrArg some (by kernel_rfl))
  f215 := Tryz.func106.trans (congrArg some (by kernel_rfl))
  t3 := Tryz.underlying3
  a3 := Tryz.isAgg3
  z3 := Tryz.sizeOf3
  v3 := Tryz.zeroValue3
  t4 := Tryz.underlying4
  a4 := Tryz.isAgg4
  z4 := Tryz.sizeOf4
  v4 := Tryz.zeroValue4 }
open Go.RowKit in
/-- cmp.Compare at int: "Compare returns -1 if x is less than y, 0 if x equals y, +1 if x is greater than y.": IT RETURNS 'Lib.compareInt x y'; the world is as it was. (LAID: no walk: one application.) -/
theorem Tryz.cmp_Compare_int (x y : Int) (w : World) :
    Calls Tryz.prog 64 #[.int .i64 x, .int .i64 y] w fun e w' => e = .returned (.int .i64 (Lib.compareInt x y)) ∧ w' = w := Any.cmp_Compare_int Tryz.lays122 x y w
def Tryz.laysM171_ren : Go.Shelf.Ren := ⟨fun | 171 => 76 | 243 => 116 | 246 => 141 | 283 => 153 | 284 => 154 | 285 => 155 | 286 => 156 | 129 => 166 | 317 => 169 | 318 => 170 | 319 => 171 | 320 => 172 | 337 => 178 | 338 => 179 | n => n, fun | 3 => 3 | 9 => 9 | 2 => 2 | 4 => 4 | 171 => 150 | 0 => 0 | 53 => 128 | 37 => 96 | 5 => 5 | 173 => 153 | 212 => 168 | 51 => 147 | 20 => 20 | 213 => 169 | 46 => 136 | 232 => 179 | 233 => 180 | n => n, fun | 17 => 3 | 18 => 4 | 19 => 5 | n => n⟩
theorem Tryz.laysM171 : Go.Proofs.LaysM.n171 Tryz.prog Tryz.laysM171_ren := {
  mixed := by kernel_rfl
  f129 := Tryz.func166.trans (congrArg some (by kernel_rfl))
  f171 := Tryz.func76.trans (congrArg some (by kernel_rfl))
  f243 := Tryz.func116.trans (congrArg some (by kernel_rfl))
  f246 := Tryz.func141.trans (congrArg some (by kernel_rfl))
  f283 := Tryz.func153.trans (congrArg some (by kernel_rfl))
  f284 := Tryz.func154.trans (congrArg some (by kernel_rfl))
  f285 := Tryz.func155.trans (congrArg some (by kernel_rfl))
  f286 := Tryz.func156.trans (congrArg some (by kernel_rfl))
  f317 := Tryz.func169.trans (congrArg some (by kernel_rfl))
  f318 := Tryz.func170.trans (congrArg some (by kernel_rfl))
  f319 := Tryz.func171.trans (congrArg some (by kernel_rfl))
  f320 := Tryz.func172.trans (congrArg some (by kernel_rfl))
  f337 := Tryz.func178.trans (congrArg some (by kernel_rfl))
  f338 := Tryz.func179.trans (congrArg some (by kernel_rfl))
  t0 := Tryz.underlying0
  a0 := Tryz.isAgg0
  z0 := Tryz.sizeOf0
  v0 := Tryz.zeroValue0
  t2 := Tryz.underlying2
  a2 := Tryz.isAgg2
  z2 := Tryz.sizeOf2
  v2 := Tryz.zeroValue2
  t3 := Tryz.underlying3
  a3 := Tryz.isAgg3
  z3 := Tryz.sizeOf3
  v3 := Tryz.zeroValue3
  t4 := Tryz.underlying4
  a4 := Tryz.isAgg4
  z4 := Tryz.sizeOf4
  v4 := Tryz.zeroValue4
  t5 := Tryz.underlying5
  a5 := Tryz.isAgg5
  z5 := Tryz.sizeOf5
  v5 := Tryz.zeroValue5
  t9 := Tryz.underlying9
  a9 := Tryz.isAgg9
  z9 := Tryz.sizeOf9
  v9 := Tryz.zeroValue9
  t20 := Tryz.underlying20
  a20 := Tryz.isAgg20
  z20 := Tryz.sizeOf20
  v20 := Tryz.zeroValue20
  t37 := Tryz.underlying96
  a37 := Tryz.isAgg96
  z37 := Tryz.sizeOf96
  v37 := Tryz.zeroValue96
  t46 := Tryz.underlying136
  a46 := Tryz.isAgg136
  z46 := Tryz.sizeOf136
  v46 := Tryz.zeroValue136
  t51 := Tryz.underlying147
  a51 := Tryz.isAgg147
  z51 := Tryz.sizeOf147
  v51 := Tryz.zeroValue147
  t53 := Tryz.underlying128
  a53 := Tryz.isAgg128
  z53 := Tryz.sizeOf128
  v53 := Tryz.zeroValue128
  t171 := Tryz.underlying150
  a171 := Tryz.isAgg150
  z171 := Tryz.sizeOf150
  v171 := Tryz.zeroValue150
  t173 := Tryz.underlying153
  a173 := Tryz.isAgg153
  z173 := Tryz.sizeOf153
  v173 := Tryz.zeroValue153
  t212 := Tryz.underlying168
  a212 := Tryz.isAgg168
  z212 := Tryz.sizeOf168
  v212 := Tryz.zeroValue168
  t213 := Tryz.underlying169
  a213 := Tryz.isAgg169
  z213 := Tryz.sizeOf169
  t232 := Tryz.underlying179
  a232 := Tryz.isAgg179
  z232 := Tryz.sizeOf179
  v232 := Tryz.zeroValue179
  t233 := Tryz.underlying180
  a233 := Tryz.isAgg180
  z233 := Tryz.sizeOf180
  v233 := Tryz.zeroValue180
  g17 := by kernel_rfl
  g18 := by kernel_rfl
  g19 := by kernel_rfl
  i0 := by kernel_rfl
  i2 := by kernel_rfl
  i3 := by kernel_rfl
  i4 := by kernel_rfl
  i5 := by kernel_rfl
  i9 := by kernel_rfl
  i20 := by kernel_rfl
  i37 := by kernel_rfl
  i46 := by kernel_rfl
  i51 := by kernel_rfl
  i53 := by kernel_rfl
  i171 := by kernel_rfl
  i173 := by kernel_rfl
  i212 := by kernel_rfl
  i232 := by kernel_rfl
  i233 := by kernel_rfl
  m17 := by kernel_rfl
  m18 := by kernel_rfl
  m19 := by kernel_rfl }
open Go.RowKit Go.Sort Go.Lib in
/-- strconv.Itoa: "Itoa is equivalent to FormatInt(int64(i), 10).": i's DECIMAL NUMERAL ('Lib.itoa': a '-' where i is negative, then the digits), FOR EVERY int. The world behind the call: the world before it, new blocks behind the heap (the library's 'var a [24]byte'), draws. (LAID: no walk: one application.) -/
theorem Tryz.strconv_Itoa (n : Int) (h0 : -9223372036854775808 ≤ n) (h1 : n ≤ 9223372036854775807) (w : World) (htab : Lib.TabIs Tryz.prog w "internal/strconv.uint64pow10" .u64 Lib.pow10Tab) :
    Calls Tryz.prog 76 #[.int .i64 n] w fun e w' => e = .returned (.string ⟨(Lib.itoa n).toArray⟩) ∧ ∃ k os, w' = grow (w.drewN k) os := Any.strconv_Itoa Tryz.laysM171 n h0 h1 w htab
def Tryz.lays219_ren : Go.Shelf.Ren := ⟨fun | 219 => 111 | 217 => 134 | 225 => 135 | 224 => 136 | 267 => 137 | 266 => 150 | 314 => 151 | n => n, fun | 9 => 9 | 3 => 3 | 4 => 4 | 5 => 5 | 46 => 136 | 146 => 148 | 51 => 147 | n => n, fun | 1 => 0 | n => n⟩
theorem Tryz.lays219 : Go.Proofs.Lays.n219 Tryz.prog Tryz.lays219_ren := {
  mixed := by kernel_rfl
  f217 := Tryz.func134.trans (congrArg some (by kernel_rfl))
  f219 := Tryz.func111.trans (congrArg some (by kernel_rfl))
  f224 := Tryz.func136.trans (congrArg some (by kernel_rfl))
  f225 := Tryz.func135.trans (congrArg some (by kernel_rfl))
  f266 := Tryz.func150.trans (congrArg some (by kernel_rfl))
  f267 := Tryz.func137.trans (congrArg some (by kernel_rfl))
  f314 := Tryz.func151.trans (congrArg some (by kernel_rfl))
  t3 := Tryz.underlying3
  a3 := Tryz.isAgg3
  z3 := Tryz.sizeOf3
  v3 := Tryz.zeroValue3
  t4 := Tryz.underlying4
  a4 := Tryz.isAgg4
  z4 := Tryz.sizeOf4
  v4 := Tryz.zeroValue4
  t5 := Tryz.underlying5
  a5 := Tryz.isAgg5
  z5 := Tryz.sizeOf5
  v5 := Tryz.zeroValue5
  t9 := Tryz.underlying9
  a9 := Tryz.isAgg9
  z9 := Tryz.sizeOf9
  v9 := Tryz.zeroValue9
  t46 := Tryz.underlying136
  a46 := Tryz.isAgg136
  z46 := Tryz.sizeOf136
  v46 := Tryz.zeroValue136
  t51 := Tryz.underlying147
  a51 := Tryz.isAgg147
  z51 := Tryz.sizeOf147
  v51 := Tryz.zeroValue147
  t146 := Tryz.underlying148
  a146 := Tryz.isAgg148
  z146 := Tryz.sizeOf148
  v146 := Tryz.zeroValue148
  g1 := by kernel_rfl }
open Go.RowKit Go.Lib in
/-- internal/stringslite.Index (what strings.Index calls) AT A substr OF ONE BYTE c: IT RETURNS 'Lib.indexByte s c'; the world is as it was. (LAID: no walk: one application.) -/
theorem Tryz.stringslite_Index_one (s : ByteArray) (c : UInt8) (w : World) :
    Calls Tryz.prog 111 #[.string s, .string ⟨#[c]⟩] w fun e w' => e = .returned (.int .i64 (Lib.indexByte s.data.toList c)) ∧ w' = w := Any.stringslite_Index_one Tryz.lays219 s c w
def Tryz.lays143_ren : Go.Shelf.Ren := ⟨fun | 143 => 114 | 219 => 111 | 217 => 134 | 225 => 135 | 224 => 136 | 267 => 137 | 266 => 150 | 314 => 151 | n => n, fun | 9 => 9 | 3 => 3 | 4 => 4 | 5 => 5 | 46 => 136 | 146 => 148 | 51 => 147 | n => n, fun | 1 => 0 | n => n⟩
theorem Tryz.lays143 : Go.Proofs.Lays.n143 Tryz.prog Tryz.lays143_ren := {
  mixed := by kernel_rfl
  f143 := Tryz.func114.trans (congrArg some (by kernel_rfl))
  f217 := Tryz.func134.trans (congrArg some (by kernel_rfl))
  f219 := Tryz.func111.trans (congrArg some (by kernel_rfl))
  f224 := Tryz.func136.trans (congrArg some (by kernel_rfl))
  f225 := Tryz.func135.trans (congrArg some (by kernel_rfl))
  f266 := Tryz.func150.trans (congrArg some (by kernel_rfl))
  f267 := Tryz.func137.trans (congrArg some (by kernel_rfl))
  f314 := Tryz.func151.trans (congrArg some (by kernel_rfl))
  t3 := Tryz.underlying3
  a3 := Tryz.isAgg3
  z3 := Tryz.sizeOf3
  v3 := Tryz.zeroValue3
  t4 := Tryz.underlying4
  a4 := Tryz.isAgg4
  z4 := Tryz.sizeOf4
  v4 := Tryz.zeroValue4
  t5 := Tryz.underlying5
  a5 := Tryz.isAgg5
  z5 := Tryz.sizeOf5
  v5 := Tryz.zeroValue5
  t9 := Tryz.underlying9
  a9 := Tryz.isAgg9
  z9 := Tryz.sizeOf9
  v9 := Tryz.zeroValue9
  t46 := Tryz.underlying136
  a46 := Tryz.isAgg136
  z46 := Tryz.sizeOf136
  v46 := Tryz.zeroValue136
  t51 := Tryz.underlying147
  a51 := Tryz.isAgg147
  z51 := Tryz.sizeOf147
  v51 := Tryz.zeroValue147
  t146 := Tryz.underlying148
  a146 := Tryz.isAgg148
  z146 := Tryz.sizeOf148
  v146 := Tryz.zeroValue148
  g1 := by kernel_rfl }
open Go.RowKit Go.Lib in
/-- strings.Index: "Index returns the index of the first instance of substr in s, or -1 if substr is not present in s.": AT A substr OF ONE BYTE c: IT RETURNS 'Lib.indexByte s c'; the world is as it was. (LAID: no walk: one application.) -/
theorem Tryz.strings_Index_one (s : ByteArray) (c : UInt8) (w : World) :
    Calls Tryz.prog 114 #[.string s, .string ⟨#[c]⟩] w fun e w' => e = .returned (.int .i64 (Lib.indexByte s.data.toList c)) ∧ w' = w := Any.strings_Index_one Tryz.lays143 s c w
def Tryz.lays138_ren : Go.Shelf.Ren := ⟨fun | 138 => 113 | 195 => 138 | 218 => 140 | 143 => 114 | 219 => 111 | 217 => 134 | 225 => 135 | 224 => 136 | 267 => 137 | 266 => 150 | 314 => 151 | n => n, fun | 9 => 9 | 3 => 3 | 4 => 4 | 5 => 5 | 0 => 0 | 46 => 136 | 146 => 148 | 51 => 147 | n => n, fun | 1 => 0 | n => n⟩
theorem Tryz.lays138 : Go.Proofs.Lays.n138 Tryz.prog Tryz.lays138_ren := {
  mixed := by kernel_rfl
  f138 := Tryz.func113.trans (congrArg some (by kernel_rfl))
  f143 := Tryz.func114.trans (congrArg some (by kernel_rfl))
  f195 := Tryz.func138.trans (congrArg some (by kernel_rfl))
  f217 := Tryz.func134.trans (congrArg some (by kernel_rfl))
  f218 := Tryz.func140.trans (congrArg some (by kernel_rfl))
  f219 := Tryz.func111.trans (congrArg some (by kernel_rfl))
  f224 := Tryz.func136.trans (congrArg some (by kernel_rfl))
  f225 := Tryz.func135.trans (congrArg some (by kernel_rfl))
  f266 := Tryz.func150.trans (congrArg some (by kernel_rfl))
  f267 := Tryz.func137.trans (congrArg some (by kernel_rfl))
  f314 := Tryz.func151.trans (congrArg some (by kernel_rfl))
  t0 := Tryz.underlying0
  a0 := Tryz.isAgg0
  z0 := Tryz.sizeOf0
  v0 := Tryz.zeroValue0
  t3 := Tryz.underlying3
  a3 := Tryz.isAgg3
  z3 := Tryz.sizeOf3
  v3 := Tryz.zeroValue3
  t4 := Tryz.underlying4
  a4 := Tryz.isAgg4
  z4 := Tryz.sizeOf4
  v4 := Tryz.zeroValue4
  t5 := Tryz.underlying5
  a5 := Tryz.isAgg5
  z5 := Tryz.sizeOf5
  v5 := Tryz.zeroValue5
  t9 := Tryz.underlying9
  a9 := Tryz.isAgg9
  z9 := Tryz.sizeOf9
  v9 := Tryz.zeroValue9
  t46 := Tryz.underlying136
  a46 := Tryz.isAgg136
  z46 := Tryz.sizeOf136
  v46 := Tryz.zeroValue136
  t51 := Tryz.underlying147
  a51 := Tryz.isAgg147
  z51 := Tryz.sizeOf147
  v51 := Tryz.zeroValue147
  t146 := Tryz.underlying148
  a146 := Tryz.isAgg148
  z146 := Tryz.sizeOf148
  v146 := Tryz.zeroValue148
  g1 := by kernel_rfl }
open Go.RowKit Go.Lib in
/-- strings.Count AT A substr OF ONE BYTE ('hp'): "Count counts the number of non-overlapping instances of substr in s.": IT RETURNS 'Lib.countByte s (that byte)'; the world is as it was. ✋ NO CONTRACT HERE YET at an empty substr (utf8.RuneCountInString) or at a longer one (a loop over strings.Index). (LAID: no walk: one application.) -/
theorem Tryz.strings_Count_one (s : ByteArray) (c : UInt8) (w : World) :
    Calls Tryz.prog 113 #[.string s, .string ⟨#[c]⟩] w fun e w' => e = .returned (.int .i64 (Lib.countByte s.data.toList c)) ∧ w' = w := Any.strings_Count_one Tryz.lays138 s c w
def Tryz.lays221_ren : Go.Shelf.Ren := ⟨fun | 221 => 71 | 268 => 112 | 138 => 113 | 143 => 114 | 195 => 138 | 197 => 139 | 218 => 140 | 219 => 111 | 260 => 152 | 217 => 134 | 225 => 135 | 224 => 136 | 267 => 137 | 266 => 150 | 314 => 151 | n => n, fun | 9 => 9 | 3 => 3 | 31 => 56 | 4 => 4 | 0 => 0 | 105 => 138 | 21 => 21 | 5 => 5 | 46 => 136 | 119 => 163 | 139 => 166 | 138 => 165 | 146 => 148 | 51 => 147 | n => n, fun | 1 => 0 | 3 => 1 | 4 => 2 | n => n⟩
theorem Tryz.lays221 : Go.Proofs.Lays.n221 Tryz.prog Tryz.lays221_ren := {
  mixed := by kernel_rfl
  f138 := Tryz.func113.trans (congrArg some (by kernel_rfl))
  f143 := Tryz.func114.trans (congrArg some (by kernel_rfl))
  f195 := Tryz.func138.trans (congrArg some (by kernel_rfl))
  f197 := Tryz.func139.trans (congrArg some (by kernel_rfl))
  f217 := Tryz.func134.trans (congrArg some (by kernel_rfl))
  f218 := Tryz.func140.trans (congrArg some (by kernel_rfl))
  f219 := Tryz.func111.trans (congrArg some (by kernel_rfl))
  f221 := Tryz.func71.trans (congrArg some (by kernel_rfl))
  f224 := Tryz.func136.trans (congrArg some (by kernel_rfl))
  f225 := Tryz.func135.trans (congrArg some (by kernel_rfl))
  f260 := Tryz.func152.trans (congrArg some (by kernel_rfl))
  f266 := Tryz.func150.trans (congrArg some (by kernel_rfl))
  f267 := Tryz.func137.trans (congrArg some (by kernel_rfl))
  f268 := Tryz.func112.trans (congrArg some (by kernel_rfl))
  f314 := Tryz.func151.trans (congrArg some (by kernel_rfl))
  t0 := Tryz.underlying0
  a0 := Tryz.isAgg0
  z0 := Tryz.sizeOf0
  v0 := Tryz.zeroValue0
  t3 := Tryz.underlying3
  a3 := Tryz.isAgg3
  z3 := Tryz.sizeOf3
  v3 := Tryz.zeroValue3
  t4 := Tryz.underlying4
  a4 := Tryz.isAgg4
  z4 := Tryz.sizeOf4
  v4 := Tryz.zeroValue4
  t5 := Tryz.underlying5
  a5 := Tryz.isAgg5
  z5 := Tryz.sizeOf5
  v5 := Tryz.zeroValue5
  t9 := Tryz.underlying9
  a9 := Tryz.isAgg9
  z9 := Tryz.sizeOf9
  v9 := Tryz.zeroValue9
  t21 := Tryz.underlying21
  a21 := Tryz.isAgg21
  z21 := Tryz.sizeOf21
  v21 := Tryz.zeroValue21
  t31 := Tryz.underlying56
  a31 := Tryz.isAgg56
  z31 := Tryz.sizeOf56
  v31 := Tryz.zeroValue56
  t46 := Tryz.underlying136
  a46 := Tryz.isAgg136
  z46 := Tryz.sizeOf136
  v46 := Tryz.zeroValue136
  t51 := Tryz.underlying147
  a51 := Tryz.isAgg147
  z51 := Tryz.sizeOf147
  v51 := Tryz.zeroValue147
  t105 := Tryz.underlying138
  a105 := Tryz.isAgg138
  z105 := Tryz.sizeOf138
  v105 := Tryz.zeroValue138
  t119 := Tryz.underlying163
  a119 := Tryz.isAgg163
  z119 := Tryz.sizeOf163
  t138 := Tryz.underlying165
  a138 := Tryz.isAgg165
  z138 := Tryz.sizeOf165
  v138 := Tryz.zeroValue165
  t139 := Tryz.underlying166
  a139 := Tryz.isAgg166
  z139 := Tryz.sizeOf166
  v139 := Tryz.zeroValue166
  t146 := Tryz.underlying148
  a146 := Tryz.isAgg148
  z146 := Tryz.sizeOf148
  v146 := Tryz.zeroValue148
  g1 := by kernel_rfl
  g3 := by kernel_rfl
  g4 := by kernel_rfl }
def Tryz.laysSlF06_f125_ren : Go.Shelf.Ren := ⟨fun | 6 => 125 | 15 => 144 | 14 => 143 | 28 => 165 | 29 => 166 | 20 => 157 | 21 => 158 | 22 => 159 | 23 => 160 | 24 => 161 | 25 => 162 | 26 => 163 | 27 => 164 | 46 => 173 | 47 => 174 | 48 => 175 | 49 => 176 | 50 => 177 | 57 => 180 | n => n, fun | 22 => 34 | 24 => 50 | 25 => 130 | 3 => 3 | 39 => 136 | 0 => 0 | 53 => 147 | 55 => 128 | 4 => 4 | 46 => 157 | 45 => 156 | 50 => 58 | 5 => 5 | 9 => 9 | 66 => 170 | 70 => 174 | 76 => 176 | 77 => 177 | n => n, fun | n => n⟩
theorem Tryz.laysSlF06_f125 : Go.Proofs.SlLaysF0.n6 Tryz.prog Tryz.laysSlF06_f125_ren := {
  mixed := by kernel_rfl
  f6 := ⟨Tryz.f125.name, by decide, Tryz.func125.trans (congrArg some (by kernel_rfl))⟩
  f14 := ⟨Tryz.f143.name, by decide, Tryz.func143.trans (congrArg some (by kernel_rfl))⟩
  f15 := Tryz.func144.trans (congrArg some (by kernel_rfl))
  f20 := ⟨Tryz.f157.name, by decide, Tryz.func157.trans (congrArg some (by kernel_rfl))⟩
  f21 := ⟨Tryz.f158.name, by decide, Tryz.func158.trans (congrArg some (by kernel_rfl))⟩
  f22 := ⟨Tryz.f159.name, by decide, Tryz.func159.trans (congrArg some (by kernel_rfl))⟩
  f23 := ⟨Tryz.f160.name, by decide, Tryz.func160.trans (congrArg some (by kernel_rfl))⟩
  f24 := ⟨Tryz.f161.name, by decide, Tryz.func161.trans (congrArg some (by kernel_rfl))⟩
  f25 := ⟨Tryz.f162.name, by decide, Tryz.func162.trans (congrArg some (by kernel_rfl))⟩
  f26 := ⟨Tryz.f163.name, by decide, Tryz.func163.trans (congrArg some (by kernel_rfl))⟩
  f27 := ⟨Tryz.f164.name, by decide, Tryz.func164.trans (congrArg some (by kernel_rfl))⟩
  f28 := Tryz.func165.trans (congrArg some (by kernel_rfl))
  f29 := Tryz.func166.trans (congrArg some (by kernel_rfl))
  f46 := ⟨Tryz.f173.name, by decide, Tryz.func173.trans (congrArg some (by kernel_rfl))⟩
  f47 := Tryz.func174.trans (congrArg some (by kernel_rfl))
  f48 := Tryz.func175.trans (congrArg some (by kernel_rfl))
  f49 := ⟨Tryz.f176.name, by decide, Tryz.func176.trans (congrArg some (by kernel_rfl))⟩
  f50 := ⟨Tryz.f177.name, by decide, Tryz.func177.trans (congrArg some (by kernel_rfl))⟩
  f57 := ⟨Tryz.f180.name, by decide, Tryz.func180.trans (congrArg some (by kernel_rfl))⟩
  t0 := Tryz.underlying0
  a0 := Tryz.isAgg0
  z0 := Tryz.sizeOf0
  v0 := Tryz.zeroValue0
  t3 := Tryz.underlying3
  a3 := Tryz.isAgg3
  z3 := Tryz.sizeOf3
  v3 := Tryz.zeroValue3
  t4 := Tryz.underlying4
  a4 := Tryz.isAgg4
  z4 := Tryz.sizeOf4
  v4 := Tryz.zeroValue4
  t5 := Tryz.underlying5
  a5 := Tryz.isAgg5
  z5 := Tryz.sizeOf5
  v5 := Tryz.zeroValue5
  t9 := Tryz.underlying9
  a9 := Tryz.isAgg9
  z9 := Tryz.sizeOf9
  v9 := Tryz.zeroValue9
  t22 := Tryz.underlying34
  a22 := Tryz.isAgg34
  z22 := Tryz.sizeOf34
  v22 := Tryz.zeroValue34
  t25 := Tryz.underlying130
  a25 := Tryz.isAgg130
  z25 := Tryz.sizeOf130
  v25 := Tryz.zeroValue130
  t39 := Tryz.underlying136
  a39 := Tryz.isAgg136
  z39 := Tryz.sizeOf136
  v39 := Tryz.zeroValue136
  t45 := Tryz.underlying156
  a45 := Tryz.isAgg156
  z45 := Tryz.sizeOf156
  v45 := Tryz.zeroValue156
  t46 := Tryz.underlying157
  a46 := Tryz.isAgg157
  z46 := Tryz.sizeOf157
  v46 := Tryz.zeroValue157
  t50 := Tryz.underlying58
  a50 := Tryz.isAgg58
  z50 := Tryz.sizeOf58
  v50 := Tryz.zeroValue58
  t53 := Tryz.underlying147
  a53 := Tryz.isAgg147
  z53 := Tryz.sizeOf147
  v53 := Tryz.zeroValue147
  t55 := Tryz.underlying128
  a55 := Tryz.isAgg128
  z55 := Tryz.sizeOf128
  v55 := Tryz.zeroValue128
  t66 := Tryz.underlying170
  a66 := Tryz.isAgg170
  z66 := Tryz.sizeOf170
  v66 := Tryz.zeroValue170
  t70 := Tryz.underlying174
  a70 := Tryz.isAgg174
  z70 := Tryz.sizeOf174
  v70 := Tryz.zeroValue174
  t76 := Tryz.underlying176
  a76 := Tryz.isAgg176
  z76 := Tryz.sizeOf176
  v76 := Tryz.zeroValue176
  t77 := Tryz.underlying177
  a77 := Tryz.isAgg177
  z77 := Tryz.sizeOf177
  v77 := Tryz.zeroValue177 }
open Go.RowKit Go.Lib Go.Sort in
/-- **slices.SortFunc, IN THE DOCUMENTATION's OWN TERMS: A PERMUTATION OF WHAT THE ROW HELD, SORTED BY 'cmp(a, b) < 0'.** Which of two equals comes first is left open ("The sort is not guaranteed to be stable"). (LAID AT THE INSTANCE 'slices.SortFunc[[]linchpin/api.Span,linchpin/api.Span]': no walk: one application.) -/
theorem Tryz.slices_SortFunc {α : Type} [Inhabited α] (k : Nat) (aE : ∀ w, (isAgg 50).run Tryz.prog w = .ok true w) (zE : ∀ w, (Go.sizeOf 50).run Tryz.prog w = .ok k w) (enc : α → List Value) (hk : ∀ x, (enc x).length = k) (h1 : ∀ x, ∀ v ∈ enc x, v.oneCell' = true) (cf : α → α → Int) (hO : SWO (ltOf cf)) (g : Nat) (cb : Array Value) (blk off cap : Nat) (d : Array α) (w : World) (eg : ∀ args w, (callFunc g args).run Tryz.prog w = .ok (.enter g args) w) (hcmp : CmpLays Tryz.prog g cb enc k cf blk off d.size w) (hH : HoldsK enc k w blk off d) (hblk : blk < w.heap.size) (hsz : d.size < 4611686018427387904) :
    Calls Tryz.prog (Tryz.laysSlF06_f125_ren.f 6) #[.slice (some ⟨blk, off, none⟩) d.size cap, .func (.func g) #[] cb] w fun e w' =>
      e = .returned (.tuple #[]) ∧ ∃ d' n os, PermIn 0 d.size d d' ∧ SortedIn (ltOf cf) 0 d.size d' ∧ w' = sortWorldK enc k w blk off n d' os := AnyQ.slices_SortFunc Tryz.laysSlF06_f125 k aE zE enc hk h1 cf hO g cb blk off cap d w eg hcmp hH hblk hsz
open Go.RowKit Go.Lib Go.Sort in
/-- **slices.SortFunc AT NO ELEMENT, A nil SLICE TOO: nothing turns.** (LAID AT THE INSTANCE 'slices.SortFunc[[]linchpin/api.Span,linchpin/api.Span]': no walk: one application.) -/
theorem Tryz.slices_SortFunc_none {α : Type} [Inhabited α] (p : Option Addr) (cap : Nat) (fv : Value) (w : World) :
    Calls Tryz.prog (Tryz.laysSlF06_f125_ren.f 6) #[.slice p 0 cap, fv] w fun e w' => e = .returned (.tuple #[]) ∧ w' = w := AnyF.slices_SortFunc_none Tryz.laysSlF06_f125 p cap fv w
end Go.Proofs
end

section
/-
  strings.Cut at a separator of one byte: cutAt. Condition: the string has fewer than 2^32 - 15 bytes.
-/
namespace Go.Proofs.YtjabcbagggicaaaGreatDoor
open Go.RowKit

theorem indexByte_one (c : UInt8) (l : List UInt8) : Lib.indexByte l c = Lib.index l [c] := by
  induction l with
  | nil => rfl
  | cons b r ih =>
    rw [Lib.indexByte, Lib.index, ih]
    by_cases h : b = c
    · subst h; simp
    · have e1 : ([c].isPrefixOf (b :: r)) = false := by simp [List.isPrefixOf]; exact fun e => h e.symm
      rw [e1]; simp [h]
theorem cutB (s : List UInt8) (c : UInt8) : Lib.cut (mkS s).data.toList (⟨#[c]⟩ : ByteArray).data.toList = cutAt c s := cutAt_cut c s

set_option maxHeartbeats 2000000 in
theorem scut_any (s : List UInt8) (c : UInt8) (w : World) (hs : (mkS s).size < 4294967281) :
    Calls Tryz.prog 70 #[.string (mkS s), .string ⟨#[c]⟩] w fun e w' => e = .returned (.tuple #[.string (mkS (cutAt c s).1), .string (mkS (cutAt c s).2.1), .bool (cutAt c s).2.2]) ∧ ∃ n, w' = w.drewN n := by
  have hc := cutB s c
  rcases Lib.indexB_cases (mkS s) ⟨#[c]⟩ with hix | ⟨i, hix, hroom⟩
  · obtain ⟨e1, e2, e3⟩ := Lib.cutB_miss (mkS s) ⟨#[c]⟩ hix
    rw [hc] at e1 e2 e3
    rw [show mkS (cutAt c s).1 = mkS s from e1, show mkS (cutAt c s).2.1 = ByteArray.empty from e2, e3]
    have hixb : Lib.indexByte (mkS s).data.toList c = -1 := (indexByte_one c _).trans hix
    have H := Lib.hid hixb
    clear hc e1 e2 e3 hix hixb
    go_enter Tryz.func70, Tryz.ntmps70
    go_wp2_with (go_at_call 111; refine (Tryz.stringslite_Index_one (mkS s) c _).mono ?_; rintro e w' ⟨rfl, rfl⟩; rw [H.out])
    go_ret3
    exact ⟨rfl, 0, rfl⟩
  · obtain ⟨e1, e2, e3⟩ := Lib.cutB_hit (mkS s) ⟨#[c]⟩ i hix
    rw [hc] at e1 e2 e3
    rw [show mkS (cutAt c s).1 = _ from e1, show mkS (cutAt c s).2.1 = _ from e2, e3]
    have hroom' : i + 1 ≤ (mkS s).size := hroom
    rw [show i + (⟨#[c]⟩ : ByteArray).size = i + 1 from rfl]
    have c1 : (0 : Int) ≤ ↑i := by omega
    have c2 : (↑i : Int) ≤ ↑(mkS s).size := by omega
    have c3 : (0 : Int) ≤ ↑i + 1 := by omega
    have c4 : (↑i + 1 : Int) ≤ ↑(mkS s).size := by omega
    have hixb : Lib.indexByte (mkS s).data.toList c = (i : Int) := (indexByte_one c _).trans hix
    have H := Lib.hid hixb
    clear hc e1 e2 e3 hix hixb
    go_enter Tryz.func70, Tryz.ntmps70
    go_wp2_with (go_at_call 111; refine (Tryz.stringslite_Index_one (mkS s) c _).mono ?_; rintro e w' ⟨rfl, rfl⟩; rw [H.out])
    have mixed : Tryz.prog.follows .mixedOrders = true := by kernel_rfl
    have hwr : IntKind.i64.wrap ((i : Int) + 1) = (i : Int) + 1 := IntWalk.i64_in _ (by omega)
    have hnat : ((i : Int) + 1).toNat = i + 1 := by omega
    go_region_o
    go_wp2
    go_ret3
    exact ⟨rfl, 1, rfl⟩

theorem cut_any (s : List UInt8) (c : UInt8) (w : World) (hs : s.length < 4294967281) :
    Calls Tryz.prog 35 #[.string (mkS s), .string ⟨#[c]⟩] w fun e w' => e = .returned (.tuple #[.string (mkS (cutAt c s).1), .string (mkS (cutAt c s).2.1), .bool (cutAt c s).2.2]) ∧ ∃ n, w' = w.drewN n := by
  have hs' : (mkS s).size < 4294967281 := by unfold mkS; simpa [ByteArray.size] using hs
  go_enter Tryz.func35, Tryz.ntmps35
  go_wp2_with (go_at_call 70; refine (scut_any s c _ hs').mono ?_; rintro e w' ⟨rfl, n, rfl⟩)
  go_ret3
  exact ⟨rfl, n, rfl⟩
theorem cutb_any (s : List UInt8) (c : UInt8) (w : World) (hs : s.length < 4294967281) :
    Calls Tryz.prog 35 #[.string (mkS s), .string ⟨#[c]⟩] w fun e w' => e = .returned (.tuple #[.string (mkS (cutAt c s).1), .string (mkS (cutAt c s).2.1), .bool (cutAt c s).2.2]) ∧ Below w.heap.size w w' :=
  (cut_any s c w hs).mono fun _ _ ⟨he, n, hw⟩ => ⟨he, by rw [hw]; exact below_drewN (Below.refl _ _) n⟩
end Go.Proofs.YtjabcbagggicaaaGreatDoor
end

section
/-
  Package ident's Number and the document's own answer's Number: both return, for every string and in every world, the number that numB finds, and whether it finds one. Conditions: none.
-/
namespace Go.Proofs.YtjabcbagggicaaaGreatDoor
open Go.RowKit

theorem ret_num {a b : Int} {p q : Bool} (h : a = b) (h2 : p = q) : Ending.returned (.tuple #[.int .i64 a, .bool p]) = .returned (.tuple #[.int .i64 b, .bool q]) := by rw [h, h2]
theorem numV_none {s : ByteArray} (h : numGo 0 true s.data.toList = none) : numV s = 0 := by unfold numV numB; rw [h]; rfl
theorem numOk_none {s : ByteArray} (h : numGo 0 true s.data.toList = none) : numOk s = false := by unfold numOk numB; rw [h]; rfl
theorem numV_some {s : ByteArray} {n : Nat} (h : numGo 0 true s.data.toList = some n) : numV s = n := by unfold numV numB; rw [h]; rfl
theorem numOk_some {s : ByteArray} {n : Nat} (h : numGo 0 true s.data.toList = some n) : numOk s = true := by unfold numOk numB; rw [h]; rfl
theorem digB_range {n : Nat} (h : digB n = true) : 48 ≤ n ∧ n ≤ 57 := by unfold digB at h; simp at h; omega

set_option maxHeartbeats 2000000 in
theorem number_any (s : ByteArray) (w : World) (hs : s.size ≤ maxLen) :
    Calls Tryz.prog 37 #[.string s] w fun e w' => e = .returned (.tuple #[.int .i64 (numV s), .bool (numOk s)]) ∧ Below w.heap.size w w' := by
  unfold maxLen at hs
  go_enter Tryz.func37, Tryz.ntmps37
  go_wp2
  go_loopw [4] (fun v wr => ∃ (pos n : Nat), wr = w.iter s pos ∧ pos ≤ s.size ∧ n ≤ 9999 ∧ v = .int .i64 n ∧ Hid (pos = 0 → n = 0) ∧ Hid (numGo n (decide (pos = 0)) (s.data.toList.drop pos) = numGo 0 true s.data.toList)) (fun _ wr => s.size - wr.iterPos w.heap.size)
  case atStart => exact ⟨0, 0, rfl, Nat.zero_le _, by omega, rfl, fun _ => rfl, rfl⟩
  case round =>
    obtain ⟨pos, n, rfl, hple, hn, rfl, HZ, HR⟩ := hrel
    by_cases hp : pos < s.size
    · have HD := Lib.hid (drop_cons s pos hp)
      by_cases ha : (s[pos]'hp).toNat < 128
      · have hnx : ∀ ty, (Instr.next (.pointer (some ⟨w.heap.size, 0, none⟩)) true ty).run Tryz.prog (w.iter s pos) = _ := fun ty => run_next_ascii w s pos ty hp ha
        by_cases hd : digB (s[pos]'hp).toNat = true
        · have HG := Lib.hid hd
          obtain ⟨hlo, hhi⟩ := digB_range hd
          clear hd
          by_cases h0 : pos = 0
          · subst h0
            by_cases h3 : n * 10 + ((s[0]'hp).toNat - 48) ≤ 9999
            · have h3i : (n : Int) * 10 + (((s[0]'hp).toNat : Int) - 48) ≤ 9999 := by omega
              go_wp2_with (go_at_call 72; refine (digit_is _ true HG.out _).mono ?_; rintro e w' ⟨rfl, rfl⟩)
              go_roundw
              case rel => exact ⟨0 + 1, n * 10 + ((s[0]'hp).toNat - 48), rfl, by omega, h3, by go_num, fun h => by omega, by rw [← HR.out, HD.out, numGo_on _ _ _ _ HG.out (by simp) h3]; rfl⟩
              case measure => simp; omega
            · have h3i : 9999 < (n : Int) * 10 + (((s[0]'hp).toNat : Int) - 48) := by omega
              go_wp2_with (go_at_call 72; refine (digit_is _ true HG.out _).mono ?_; rintro e w' ⟨rfl, rfl⟩)
              go_ret2
              have HN : numGo 0 true s.data.toList = none := by rw [← HR.out, HD.out, numGo_big _ _ _ _ h3]
              exact ⟨ret_num (numV_none HN).symm (numOk_none HN).symm, below_iter _ _ _⟩
          · have hpos : 0 < pos := by omega
            by_cases hz : n = 0
            · have hzb : ((n : Int) == 0) = true := by simp [hz]
              have HZ2 := Lib.hid hz
              clear hz
              go_wp2_with (go_at_call 72; refine (digit_is _ true HG.out _).mono ?_; rintro e w' ⟨rfl, rfl⟩)
              go_ret2
              have HN : numGo 0 true s.data.toList = none := by rw [← HR.out, HD.out, HZ2.out, decide_eq_false (by omega), numGo_zero]
              exact ⟨ret_num (numV_none HN).symm (numOk_none HN).symm, below_iter _ _ _⟩
            · have hzb : ((n : Int) == 0) = false := by simpa using hz
              by_cases h3 : n * 10 + ((s[pos]'hp).toNat - 48) ≤ 9999
              · have h3i : (n : Int) * 10 + (((s[pos]'hp).toNat : Int) - 48) ≤ 9999 := by omega
                go_wp2_with (go_at_call 72; refine (digit_is _ true HG.out _).mono ?_; rintro e w' ⟨rfl, rfl⟩)
                go_roundw
                case rel => exact ⟨pos + 1, n * 10 + ((s[pos]'hp).toNat - 48), rfl, by omega, h3, by go_num, fun h => by omega, by rw [← HR.out, HD.out, numGo_on _ _ _ _ HG.out (fun h => hz h.2) h3]; rfl⟩
                case measure => simp; omega
              · have h3i : 9999 < (n : Int) * 10 + (((s[pos]'hp).toNat : Int) - 48) := by omega
                go_wp2_with (go_at_call 72; refine (digit_is _ true HG.out _).mono ?_; rintro e w' ⟨rfl, rfl⟩)
                go_ret2
                have HN : numGo 0 true s.data.toList = none := by rw [← HR.out, HD.out, numGo_big _ _ _ _ h3]
                exact ⟨ret_num (numV_none HN).symm (numOk_none HN).symm, below_iter _ _ _⟩
        · have HG := Lib.hid (Bool.eq_false_iff.2 hd)
          clear hd
          go_wp2_with (go_at_call 72; refine (digit_is _ false HG.out _).mono ?_; rintro e w' ⟨rfl, rfl⟩)
          go_ret2
          have HN : numGo 0 true s.data.toList = none := by rw [← HR.out, HD.out, numGo_bad _ _ _ _ HG.out]
          exact ⟨ret_num (numV_none HN).symm (numOk_none HN).symm, below_iter _ _ _⟩
      · have hnx : ∀ ty, (Instr.next (.pointer (some ⟨w.heap.size, 0, none⟩)) true ty).run Tryz.prog (w.iter s pos) = _ := fun ty => run_next_any w s pos ty hp
        have hhi := (decode_high s pos hp (by omega)).1
        have HG := Lib.hid (digB_hi _ hhi)
        go_wp2_with (go_at_call 72; refine (digit_is _ false HG.out _).mono ?_; rintro e w' ⟨rfl, rfl⟩)
        go_ret2
        have HN : numGo 0 true s.data.toList = none := by rw [← HR.out, HD.out, numGo_bad _ _ _ _ (digB_hi8 _ (by omega))]
        exact ⟨ret_num (numV_none HN).symm (numOk_none HN).symm, below_iter _ _ _⟩
    · have hnx : ∀ ty, (Instr.next (.pointer (some ⟨w.heap.size, 0, none⟩)) true ty).run Tryz.prog (w.iter s pos) = _ := fun ty => run_next_end w s pos ty hp
      have HD := Lib.hid (drop_end s pos hp)
      by_cases he : s.size = 0
      · have hes : s = ⟨#[]⟩ := by
          apply ByteArray.ext
          exact Array.eq_empty_of_size_eq_zero he
        subst hes
        obtain rfl : n = 0 := HZ.out (Nat.le_zero.1 hple)
        go_wp2
        go_ret2
        exact ⟨ret_num (by decide) (by decide), below_iter _ _ _⟩
      · have hse : (!s.toList.isEmpty) = true := by
          rw [Lib.toList_data, Bool.not_eq_true', List.isEmpty_eq_false_iff]; intro h; apply he; have := congrArg List.length h; simpa using this
        have HSE := Lib.hid hse
        clear hse
        go_wp2
        go_ret2
        have HN : numGo 0 true s.data.toList = some n := by rw [← HR.out, HD.out, decide_eq_false (by omega), numGo]; rfl
        exact ⟨ret_num (numV_some HN).symm (HSE.out.trans (numOk_some HN).symm), below_iter _ _ _⟩

theorem foldV_snoc (l : List UInt8) (c : UInt8) (n : Nat) : foldV n (l ++ [c]) = foldV n l * 10 + (c.toNat - 48) := by rw [foldV_append]; rfl
theorem take_snoc (s : ByteArray) (k : Nat) (h : k < s.size) : s.data.toList.take (k + 1) = s.data.toList.take k ++ [s[k]] := by
  rw [List.take_succ_eq_append_getElem (by simpa using h)]; rfl
theorem allDig_snoc (l : List UInt8) (c : UInt8) : allDig (l ++ [c]) = (allDig l && digB c.toNat) := by rw [allDig_append]; unfold allDig; rw [List.all_cons, List.all_nil, Bool.and_true]
theorem allDig_bad (s : ByteArray) (k : Nat) (h : k < s.size) (hd : digB s[k].toNat = false) : allDig s.data.toList = false := by
  have e : s.data.toList = s.data.toList.take k ++ s[k] :: s.data.toList.drop (k + 1) := by rw [← drop_cons s k h, List.take_append_drop]
  rw [e, allDig_append]
  have : allDig (s[k] :: s.data.toList.drop (k + 1)) = false := by unfold allDig; rw [List.all_cons, hd]; rfl
  rw [this, Bool.and_false]
theorem len_data (s : ByteArray) : s.data.toList.length = s.size := by simp
theorem head_data (s : ByteArray) (h : 0 < s.size) : s.data.toList.head? = some s[0] := by
  have := drop_cons s 0 h
  rw [List.drop_zero] at this
  rw [this]; rfl
theorem ten_le {k : Nat} (h : k ≤ 8) : 10 ^ k ≤ 100000000 := Nat.pow_le_pow_right (by omega) h

set_option maxHeartbeats 2000000 in
theorem rnumber_any (s : ByteArray) (w : World) (hs : s.size ≤ maxLen) :
    Calls Tryz.prog 75 #[.string s] w fun e w' => e = .returned (.tuple #[.int .i64 (numV s), .bool (numOk s)]) ∧ w = w' := by
  unfold maxLen at hs
  have HREF := Lib.hid (numGo_ref s.data.toList)
  by_cases h0 : s.size < 1
  · have HN : numGo 0 true s.data.toList = none := by rw [HREF.out, numRef, if_pos (Or.inl (by rw [len_data]; exact h0))]
    have HV := Lib.hid (numV_none HN)
    have HO := Lib.hid (numOk_none HN)
    clear HN
    go_enter Tryz.func75, Tryz.ntmps75
    go_wp2
    go_ret2
    exact ⟨ret_num HV.out.symm HO.out.symm, rfl⟩
  · have hp0 : 0 < s.size := by omega
    by_cases h9 : s.size ≤ 9
    · by_cases hz : 1 < s.size ∧ (s[0].toNat : Int) = 48
      · have HN : numGo 0 true s.data.toList = none := by
          rw [HREF.out, numRef, if_pos (Or.inr (Or.inr ⟨by rw [len_data]; exact hz.1, by rw [head_data s hp0, show s[0] = 48 from UInt8.toNat_inj.1 (by have := hz.2; show s[0].toNat = 48; omega)]⟩))]
        have HV := Lib.hid (numV_none HN)
        have HO := Lib.hid (numOk_none HN)
        clear HN
        have hb : ((s[0].toNat : Int) == 48) = true := by simp [hz.2]
        have h1 : 1 < s.size := hz.1
        clear hz
        go_enter Tryz.func75, Tryz.ntmps75
        go_wp2
        go_ret2
        exact ⟨ret_num HV.out.symm HO.out.symm, rfl⟩
      · have HN : Hid (numGo 0 true s.data.toList = if allDig s.data.toList = true ∧ foldV 0 s.data.toList ≤ 9999 then some (foldV 0 s.data.toList) else none) := by
          show _ = _
          rw [HREF.out, numRef, if_neg]
          rintro (h | h | h)
          · rw [len_data] at h; omega
          · rw [len_data] at h; omega
          · rw [len_data, head_data s hp0] at h
            refine hz ⟨h.1, ?_⟩
            have := Option.some.inj h.2
            rw [this]; rfl
        have hb : 1 < s.size → ((s[0].toNat : Int) == 48) = false := fun h => beq_int_false (fun e => hz ⟨h, e⟩)
        clear hz
        by_cases h1 : 1 < s.size
        · have hb1 := hb h1
          clear hb
          go_enter Tryz.func75, Tryz.ntmps75
          go_wp2
          go_loop [4, 5] (fun v i => ∃ k n : Nat, k ≤ s.size ∧ v = .int .i64 n ∧ i = .int .i64 k ∧ Hid (n < 10 ^ k) ∧ Hid (n = foldV 0 (s.data.toList.take k)) ∧ Hid (allDig (s.data.toList.take k) = true)) (fun _ i => s.size - (intOf i).toNat)
          case atStart => exact ⟨0, 0, Nat.zero_le _, rfl, rfl, by show 0 < 10 ^ 0; omega, rfl, rfl⟩
          case round =>
            obtain ⟨k, n, hk, rfl, rfl, HP, HF, HA⟩ := hrel
            by_cases hp : k < s.size
            · by_cases hd : digB s[k].toNat = true
              · have HG := Lib.hid hd
                obtain ⟨hlo, hhi⟩ := digB_range hd
                clear hd
                have hn8 : n ≤ 100000000 := Nat.le_of_lt (Nat.lt_of_lt_of_le HP.out (ten_le (by omega)))
                go_wp2_with (go_at_call 115; refine (rdigit_is _ true HG.out _).mono ?_; rintro e w' ⟨rfl, rfl⟩)
                go_round
                case rel =>
                  refine ⟨k + 1, n * 10 + (s[k].toNat - 48), by omega, by go_num, by go_num, ?_, ?_, ?_⟩
                  · have := HP.out
                    show _ < 10 ^ (k + 1)
                    rw [Nat.pow_succ]; omega
                  · show _ = _
                    rw [take_snoc s k hp, foldV_snoc, ← HF.out]
                  · show _ = _
                    rw [take_snoc s k hp, allDig_snoc, HA.out, HG.out]; rfl
                case measure => simp [intOf]; omega
              · have HG := Lib.hid (Bool.eq_false_iff.2 hd)
                clear hd
                go_wp2_with (go_at_call 115; refine (rdigit_is _ false HG.out _).mono ?_; rintro e w' ⟨rfl, rfl⟩)
                go_ret2
                have HM : numGo 0 true s.data.toList = none := by rw [HN.out, allDig_bad s k hp HG.out]; simp
                exact ⟨ret_num (numV_none HM).symm (numOk_none HM).symm, rfl⟩
            · have HT : Hid (s.data.toList.take k = s.data.toList) := List.take_of_length_le (by rw [len_data]; omega)
              by_cases h4 : n ≤ 9999
              · go_wp2
                go_ret2
                have HM : numGo 0 true s.data.toList = some n := by
                  have e1 := HF.out
                  have e2 := HA.out
                  rw [HT.out] at e1 e2
                  rw [HN.out, e2, ← e1, if_pos ⟨rfl, h4⟩]
                exact ⟨ret_num (numV_some HM).symm (numOk_some HM).symm, rfl⟩
              · go_wp2
                go_ret2
                have HM : numGo 0 true s.data.toList = none := by
                  have e1 := HF.out
                  rw [HT.out] at e1
                  rw [HN.out, ← e1, if_neg (fun h => h4 h.2)]
                exact ⟨ret_num (numV_none HM).symm (numOk_none HM).symm, rfl⟩
        · clear hb
          go_enter Tryz.func75, Tryz.ntmps75
          go_wp2
          go_loop [4, 5] (fun v i => ∃ k n : Nat, k ≤ s.size ∧ v = .int .i64 n ∧ i = .int .i64 k ∧ Hid (n < 10 ^ k) ∧ Hid (n = foldV 0 (s.data.toList.take k)) ∧ Hid (allDig (s.data.toList.take k) = true)) (fun _ i => s.size - (intOf i).toNat)
          case atStart => exact ⟨0, 0, Nat.zero_le _, rfl, rfl, by show 0 < 10 ^ 0; omega, rfl, rfl⟩
          case round =>
            obtain ⟨k, n, hk, rfl, rfl, HP, HF, HA⟩ := hrel
            by_cases hp : k < s.size
            · by_cases hd : digB s[k].toNat = true
              · have HG := Lib.hid hd
                obtain ⟨hlo, hhi⟩ := digB_range hd
                clear hd
                have hn8 : n ≤ 100000000 := Nat.le_of_lt (Nat.lt_of_lt_of_le HP.out (ten_le (by omega)))
                go_wp2_with (go_at_call 115; refine (rdigit_is _ true HG.out _).mono ?_; rintro e w' ⟨rfl, rfl⟩)
                go_round
                case rel =>
                  refine ⟨k + 1, n * 10 + (s[k].toNat - 48), by omega, by go_num, by go_num, ?_, ?_, ?_⟩
                  · have := HP.out
                    show _ < 10 ^ (k + 1)
                    rw [Nat.pow_succ]; omega
                  · show _ = _
                    rw [take_snoc s k hp, foldV_snoc, ← HF.out]
                  · show _ = _
                    rw [take_snoc s k hp, allDig_snoc, HA.out, HG.out]; rfl
                case measure => simp [intOf]; omega
              · have HG := Lib.hid (Bool.eq_false_iff.2 hd)
                clear hd
                go_wp2_with (go_at_call 115; refine (rdigit_is _ false HG.out _).mono ?_; rintro e w' ⟨rfl, rfl⟩)
                go_ret2
                have HM : numGo 0 true s.data.toList = none := by rw [HN.out, allDig_bad s k hp HG.out]; simp
                exact ⟨ret_num (numV_none HM).symm (numOk_none HM).symm, rfl⟩
            · have HT : Hid (s.data.toList.take k = s.data.toList) := List.take_of_length_le (by rw [len_data]; omega)
              by_cases h4 : n ≤ 9999
              · go_wp2
                go_ret2
                have HM : numGo 0 true s.data.toList = some n := by
                  have e1 := HF.out
                  have e2 := HA.out
                  rw [HT.out] at e1 e2
                  rw [HN.out, e2, ← e1, if_pos ⟨rfl, h4⟩]
                exact ⟨ret_num (numV_some HM).symm (numOk_some HM).symm, rfl⟩
              · go_wp2
                go_ret2
                have HM : numGo 0 true s.data.toList = none := by
                  have e1 := HF.out
                  rw [HT.out] at e1
                  rw [HN.out, ← e1, if_neg (fun h => h4 h.2)]
                exact ⟨ret_num (numV_none HM).symm (numOk_none HM).symm, rfl⟩
    · have HN : numGo 0 true s.data.toList = none := by rw [HREF.out, numRef, if_pos (Or.inr (Or.inl (by rw [len_data]; omega)))]
      have HV := Lib.hid (numV_none HN)
      have HO := Lib.hid (numOk_none HN)
      clear HN
      go_enter Tryz.func75, Tryz.ntmps75
      go_wp2
      go_ret2
      exact ⟨ret_num HV.out.symm HO.out.symm, rfl⟩
end Go.Proofs.YtjabcbagggicaaaGreatDoor
end

section
/-
  Package version: digit, numeric and list: what they return for every string of at most 2^32 - 16 bytes; nothing that was there is changed.
-/
namespace Go.Proofs.YtjabcbagggicaaaGreatDoor
open Go.RowKit

theorem vdigit_is (r : Int) (b : Bool) (hb : digB r = b) (w : World) :
    Calls Tryz.prog 118 #[.int .i32 r] w fun e w' => e = .returned (.bool b) ∧ w = w' := by
  subst hb
  unfold digB
  go_enter Tryz.func118, Tryz.ntmps118
  go_wp2
  all_goals go_ret
  all_goals exact ⟨ret_bool (by simp; try omega), rfl⟩

theorem allDig_cons_ok (c : UInt8) (r : List UInt8) (h : digB c.toNat = true) : allDig (c :: r) = allDig r := by unfold allDig; rw [List.all_cons, h, Bool.true_and]
theorem allDig_cons_bad (c : UInt8) (r : List UInt8) (h : digB c.toNat = false) : allDig (c :: r) = false := by unfold allDig; rw [List.all_cons, h, Bool.false_and]

set_option maxHeartbeats 1000000 in
theorem vnumeric_any (s : ByteArray) (w : World) (_hs : s.size ≤ maxLen) :
    Calls Tryz.prog 119 #[.string s] w fun e w' => e = .returned (.bool (numer s.data.toList)) ∧ Below w.heap.size w w' := by
  go_enter Tryz.func119, Tryz.ntmps119
  go_wp2
  go_loopw [] (fun wr => ∃ (pos : Nat), wr = w.iter s pos ∧ pos ≤ s.size ∧ Hid (allDig (s.data.toList.drop pos) = allDig s.data.toList)) (fun wr => s.size - wr.iterPos w.heap.size)
  case atStart => exact ⟨0, rfl, Nat.zero_le _, rfl⟩
  case round =>
    obtain ⟨pos, rfl, hple, HR⟩ := hrel
    by_cases hp : pos < s.size
    · have HD := Lib.hid (drop_cons s pos hp)
      by_cases ha : (s[pos]'hp).toNat < 128
      · have hnx : ∀ ty, (Instr.next (.pointer (some ⟨w.heap.size, 0, none⟩)) true ty).run Tryz.prog (w.iter s pos) = _ := fun ty => run_next_ascii w s pos ty hp ha
        by_cases hd : digB (s[pos]'hp).toNat = true
        · have HG := Lib.hid hd
          clear hd
          go_wp2_with (go_at_call 118; refine (vdigit_is _ true HG.out _).mono ?_; rintro e w' ⟨rfl, rfl⟩)
          go_roundw
          case rel => exact ⟨pos + 1, rfl, by omega, by rw [← HR.out, HD.out, allDig_cons_ok _ _ HG.out]; rfl⟩
          case measure => simp; omega
        · have HG := Lib.hid (Bool.eq_false_iff.2 hd)
          clear hd
          go_wp2_with (go_at_call 118; refine (vdigit_is _ false HG.out _).mono ?_; rintro e w' ⟨rfl, rfl⟩)
          go_ret
          exact ⟨ret_bool (by unfold numer; rw [← HR.out, HD.out, allDig_cons_bad _ _ HG.out, Bool.and_false]), below_iter _ _ _⟩
      · have hnx : ∀ ty, (Instr.next (.pointer (some ⟨w.heap.size, 0, none⟩)) true ty).run Tryz.prog (w.iter s pos) = _ := fun ty => run_next_any w s pos ty hp
        have hhi := (decode_high s pos hp (by omega)).1
        have HG := Lib.hid (digB_hi _ hhi)
        go_wp2_with (go_at_call 118; refine (vdigit_is _ false HG.out _).mono ?_; rintro e w' ⟨rfl, rfl⟩)
        go_ret
        exact ⟨ret_bool (by unfold numer; rw [← HR.out, HD.out, allDig_cons_bad _ _ (digB_hi8 _ (by omega)), Bool.and_false]), below_iter _ _ _⟩
    · have hnx : ∀ ty, (Instr.next (.pointer (some ⟨w.heap.size, 0, none⟩)) true ty).run Tryz.prog (w.iter s pos) = _ := fun ty => run_next_end w s pos ty hp
      have HD := Lib.hid (drop_end s pos hp)
      go_wp2
      go_ret
      exact ⟨ret_bool (by unfold numer; rw [← HR.out, HD.out]; simp [allDig, Lib.toList_data]), below_iter _ _ _⟩
theorem mk_data (t : List UInt8) : (mkS t).data.toList = t := by unfold mkS; simp
theorem tagC_dig (c : UInt8) (h : digB c.toNat = true) : tagC c = true := by unfold tagC; rw [h]; simp
theorem tagC_let (c : UInt8) (h : letB c.toNat = true) : tagC c = true := by unfold tagC; rw [h]; simp
theorem tagC_dash (c : UInt8) (h : (c.toNat : Int) = 45) : tagC c = true := by unfold tagC; rw [decide_eq_true h]; simp
theorem tagC_bad (c : UInt8) (h1 : digB c.toNat = false) (h2 : letB c.toNat = false) (h3 : ¬ (c.toNat : Int) = 45) : tagC c = false := by unfold tagC; rw [h1, h2, decide_eq_false h3]; rfl
theorem all_ok (c : UInt8) (r : List UInt8) (h : tagC c = true) : (c :: r).all tagC = r.all tagC := by rw [List.all_cons, h, Bool.true_and]
theorem all_bad (c : UInt8) (r : List UInt8) (h : tagC c = false) : (c :: r).all tagC = false := by rw [List.all_cons, h, Bool.false_and]
def lcells (l : List (List UInt8)) : Array Value := #[.string (mkS (tg l 0)), .string (mkS (tg l 1)), .string (mkS (tg l 2)), .string (mkS (tg l 3))]

theorem tagOk_short {t : List UInt8} (h : t = []) : tagOk t = false := by subst h; decide
theorem tagOk_long {t : List UInt8} (h : 8 < t.length) : tagOk t = false := by
  unfold tagOk; rw [decide_eq_false (by omega)]; rfl
theorem tagOk_mid {t : List UInt8} (h : t ≠ []) (h2 : t.length ≤ 8) : tagOk t = t.all tagC := by
  unfold tagOk
  have : 1 ≤ t.length := by cases t <;> simp at h ⊢
  rw [decide_eq_true ⟨this, h2⟩, Bool.true_and]
theorem cutGo_bad (n : Nat) (s : List UInt8) (h : tagOk (cutAt 46 s).1 = false) : cutGo (n + 1) s = ([], false) := by
  unfold cutGo; rw [if_neg (by simp [h])]
theorem cutGo_on (n : Nat) (s : List UInt8) (h : tagOk (cutAt 46 s).1 = true) (h2 : (cutAt 46 s).2.2 = true) : cutGo (n + 1) s = ((cutAt 46 s).1 :: (cutGo n (cutAt 46 s).2.1).1, (cutGo n (cutAt 46 s).2.1).2) := by
  rw [cutGo, if_pos h, if_pos h2]
theorem lcells_snoc (acc : List (List UInt8)) (x : List UInt8) (k : Nat) (hk : acc.length = k) (h4 : k < 4) : (lcells acc).setIfInBounds k (.string (mkS x)) = lcells (acc ++ [x]) := by
  subst hk
  match acc, h4 with
  | [], _ => rfl
  | [a], _ => rfl
  | [a, b], _ => rfl
  | [a, b, c], _ => rfl

def LRel (s : List UInt8) (w : World) (g : Nat) (s0 s5 s6 : Value) (wr : World) : Prop :=
  ∃ (acc : List (List UInt8)) (r : List UInt8) (k : Nat) (b : Bool), k + g = 4 ∧ s0 = .string (mkS r) ∧ s5 = .bool b ∧ s6 = .int .i64 k ∧ r.length ≤ s.length ∧
    wr.heap[w.heap.size]? = some (.cells (lcells []) 107) ∧ wr.heap[w.heap.size + 1]? = some (.cells (lcells acc) 107) ∧ Below w.heap.size w wr ∧
    (b = true → lst s = (acc, true)) ∧ (b = false → acc.length = k ∧ lst s = (acc ++ (cutGo (4 - k) r).1, (cutGo (4 - k) r).2))

theorem heap_new (w : World) (o : Obj) : (w.alloc o).heap[w.heap.size]? = some o := by
  show (w.heap.push o)[w.heap.size]? = some o
  simp
theorem heap_at (w : World) (o : Obj) (k : Nat) (h : k = w.heap.size) : (w.alloc o).heap[k]? = some o := by subst h; exact heap_new w o
theorem heap_old (w : World) (o : Obj) {k : Nat} (h : k < w.heap.size) : (w.alloc o).heap[k]? = w.heap[k]? := by
  show (w.heap.push o)[k]? = _
  rw [Array.getElem?_push, if_neg (by omega)]
theorem heap_iter (w : World) (s : ByteArray) (pos : Nat) {k : Nat} (h : k < w.heap.size) : (w.iter s pos).heap[k]? = w.heap[k]? := heap_old w _ h
theorem cell_row {w : World} {g j : Nat} {cs : Array Value} {t : TypeId} (hg : w.heap[g]? = some (.cells cs t (0, 0))) (hj : j < cs.size) : w.cell? ⟨g, j, none⟩ = some cs[j] ∧ w.frozen? ⟨g, j, none⟩ = false := by
  refine ⟨by rw [cell_of_row w g j cs t (0, 0) hg]; simp [hj], by simp [World.frozen?, hg]⟩
theorem below_setRow {B g : Nat} {a w : World} (h : Below B a w) (hg : B ≤ g) (cs : Array Value) : Below B a (w.setRow g cs) := by
  refine ⟨h.os, h.tape, h.output, ?_, h.drawn, fun k hk => ?_⟩
  · have := h.size; unfold World.setRow; simpa using this
  · rw [← h.block k hk]
    unfold World.setRow
    have : g ≠ k := by omega
    simp [Array.getElem?_modify, this]
theorem setRow_apart (w : World) (g k : Nat) (cs : Array Value) (h : g ≠ k) : (w.setRow g cs).heap[k]? = w.heap[k]? := by
  unfold World.setRow
  simp [Array.getElem?_modify, h]
theorem lcells_size (l : List (List UInt8)) : (lcells l).size = 4 := rfl
theorem lcells_one (l : List (List UInt8)) : (lcells l).all (·.oneCell') = true := by simp [lcells, Value.oneCell']
def LEnd (s : List UInt8) (w : World) (e : Ending) (w' : World) : Prop := e = .returned (.tuple #[.agg (lcells (lst s).1), .bool (lst s).2]) ∧ Below w.heap.size w w'

theorem list_done {s : List UInt8} {w wr : World} {acc : List (List UInt8)} {b : Bool} {tmps : Array Value} (h2 : tmps.getD 2 undef = .pointer (some ⟨w.heap.size, 0, none⟩)) (h3 : tmps.getD 3 undef = .bool b)
    (hg : wr.heap[w.heap.size]? = some (.cells (lcells []) 107)) (hbel : Below w.heap.size w wr) (hl : lst s = (acc, b)) :
    bodyPost Tryz.prog Tryz.f81 (LEnd s w) .ret ⟨tmps, []⟩ (wr.setRow w.heap.size (lcells acc)) := by
  have hrow := setRow_heap wr w.heap.size _ (lcells acc) _ _ hg
  have hr := run_loadVar_row (P := Tryz.prog) (wr.setRow w.heap.size (lcells acc)) w.heap.size 107 107 (lcells acc) _ _ hrow Tryz.underlying107 rfl (by kernel_rfl)
  have h2' : tmps[2]?.getD undef = .pointer (some ⟨w.heap.size, 0, none⟩) := by simpa using h2
  have h3' : tmps[3]?.getD undef = .bool b := by simpa using h3
  refine bodyPost_ret (v := .tuple #[.agg (lcells acc), .bool b]) (by simp [results, Tryz.results81, asAddr, h2', h3', hr]) rfl ⟨by rw [hl], below_setRow hbel (Nat.le_refl _) _⟩

set_option maxHeartbeats 4000000 in
theorem list_any0 (s : List UInt8) (w : World) (hs : s.length < 4294967281) :
    Calls Tryz.prog 81 #[.string (mkS s)] w (LEnd s w) := by
  go_enter Tryz.func81, Tryz.ntmps81
  go_wp2
  go_step3
  go_wp2
  go_step3
  go_wp2
  go_loopg [0, 5, 6] 4 (fun g s0 s5 s6 wr => LRel s w g s0 s5 s6 wr)
  case atStart =>
    refine ⟨[], s, 0, s.isEmpty, by omega, rfl, ?_, rfl, Nat.le_refl _, ?_, ?_, ?_, ?_, ?_⟩
    · rw [Lib.toList_data]; rfl
    · rw [heap_old _ _ (by simp), heap_new]; rfl
    · exact heap_at _ _ _ (by simp)
    · exact ((Below.refl _ _).alloc (Nat.le_refl _) _).alloc (by simp) _
    · intro h; unfold lst; rw [if_pos h]
    · intro h; unfold lst; rw [if_neg (by simp [h])]; exact ⟨rfl, rfl⟩
  case round =>
    obtain ⟨acc, r, k, b, hkg, rfl, rfl, rfl, hrl, hB0, hB1, hbel, hT, hF⟩ := hrel
    have HB0 := Lib.hid hB0
    have HB1 := Lib.hid hB1
    clear hB0 hB1
    cases b with
    | true =>
      have HT := Lib.hid (hT rfl)
      clear hT hF
      by_cases hk4 : (k : Int) < 4
      all_goals
        go_wp2_with (first
          | (refine wpList_load_row rfl 107 _ rfl (w.heap.size + 1) rfl _ _ _ _ HB1.out Tryz.underlying107 rfl (by kernel_rfl) ?_)
          | (refine wpList_store_row rfl 107 _ _ rfl w.heap.size (lcells acc) rfl rfl _ _ HB0.out (by kernel_rfl) rfl (lcells_one acc) ?_))
        exact list_done rfl rfl HB0.out hbel HT.out
    | false =>
      have HKL := Lib.hid (hF rfl).1
      have HL := Lib.hid (hF rfl).2
      clear hT hF
      cases gk with
      | zero =>
        have hk4 : ¬ (k : Int) < 4 := by omega
        go_wp2_with (first
          | (refine wpList_load_row rfl 107 _ rfl (w.heap.size + 1) rfl _ _ _ _ HB1.out Tryz.underlying107 rfl (by kernel_rfl) ?_)
          | (refine wpList_store_row rfl 107 _ _ rfl w.heap.size (lcells acc) rfl rfl _ _ HB0.out (by kernel_rfl) rfl (lcells_one acc) ?_))
        exact list_done rfl rfl HB0.out hbel (by rw [HL.out, show 4 - k = 0 from by omega, cutGo, List.append_nil])
      | succ g =>
        have hk4 : (k : Int) < 4 := by omega
        obtain ⟨t, rest, more, hcut⟩ : ∃ t rest more, cutAt 46 r = (t, rest, more) := ⟨_, _, _, rfl⟩
        have hle := cutAt_le 46 r
        have cC := cutb_any r 46 wr (by omega)
        have hG : (∀ n, cutGo (n + 1) r = if tagOk t then (if more then (t :: (cutGo n rest).1, (cutGo n rest).2) else ([t], true)) else ([], false)) := by
          intro n; rw [cutGo, hcut]
        have HG := Lib.hid hG
        clear hG
        rw [hcut] at cC hle
        dsimp only at cC hle
        have htz : (mkS t).size = t.length := by unfold mkS; simp [ByteArray.size]
        have HC := Lib.hid hcut
        clear hcut
        have hsz0 : w.heap.size + 1 < wr.heap.size := (Array.getElem?_eq_some_iff.1 HB1.out).1
        by_cases ht0 : t = []
        · have hte : (mkS t).toList.isEmpty = true := by rw [Lib.toList_data, ht0]; rfl
          have hE : lst s = (acc, false) := by rw [HL.out, show 4 - k = (3 - k) + 1 from by omega, HG.out, tagOk_short ht0]; simp
          have HE := Lib.hid hE
          clear hE
          clear ht0
          go_wp2_with (first
            | (go_at_call 35; refine cC.mono ?_; rintro e w2 ⟨rfl, hb2⟩; have HB02 := Lib.hid ((hb2.block w.heap.size (by omega)).trans HB0.out); have HB12 := Lib.hid ((hb2.block (w.heap.size + 1) hsz0).trans HB1.out))
            | (refine wpList_load_row rfl 107 _ rfl (w.heap.size + 1) rfl _ _ _ _ HB12.out Tryz.underlying107 rfl (by kernel_rfl) ?_)
            | (refine wpList_store_row rfl 107 _ _ rfl w.heap.size (lcells acc) rfl rfl _ _ HB02.out (by kernel_rfl) rfl (lcells_one acc) ?_))
          exact list_done rfl rfl HB02.out (hbel.trans (hb2.mono hbel.size)) HE.out
        · have htn : (mkS t).toList.isEmpty = false := by
            rw [Lib.toList_data, mk_data]; cases t with
            | nil => exact absurd rfl ht0
            | cons _ _ => rfl
          by_cases h8 : t.length ≤ 8
          · have h8i : ¬ (8 : Int) < (mkS t).size := by omega
            have HA := Lib.hid (tagOk_mid ht0 h8)
            clear ht0
            go_wp2_with (first
              | (go_at_call 35; refine cC.mono ?_; rintro e w2 ⟨rfl, hb2⟩; have HB02 := Lib.hid ((hb2.block w.heap.size (by omega)).trans HB0.out); have HB12 := Lib.hid ((hb2.block (w.heap.size + 1) hsz0).trans HB1.out)))
            go_loopg [11] ((mkS t).size + 1) (fun g2 s11 wi => ∃ pos : Nat, wi = w2.iter (mkS t) pos ∧ pos + g2 = (mkS t).size + 1 ∧ pos ≤ (mkS t).size ∧ Hid ((t.drop pos).all tagC = t.all tagC))
            case atStart => exact ⟨0, rfl, by omega, by omega, rfl⟩
            case round =>
              obtain ⟨pos, rfl, hpg, hple, HR⟩ := hrel
              have hs1 : w.heap.size + 1 < w2.heap.size := by have := hb2.size; omega
              have hs0 : w.heap.size < w2.heap.size := by omega
              have hb0 : w.heap.size ≤ w2.heap.size := by omega
              by_cases hp : pos < (mkS t).size
              · have hd0 := drop_cons (mkS t) pos hp
                rw [mk_data] at hd0
                have HD := Lib.hid hd0
                clear hd0
                by_cases ha : ((mkS t)[pos]'hp).toNat < 128
                · have hnx : ∀ ty, (Instr.next (.pointer (some ⟨w2.heap.size, 0, none⟩)) true ty).run Tryz.prog (w2.iter (mkS t) pos) = _ := fun ty => run_next_ascii w2 (mkS t) pos ty hp ha
                  by_cases hd : digB ((mkS t)[pos]'hp).toNat = true
                  · have HG1 := Lib.hid hd
                    clear hd
                    go_wp2_with (go_at_call 118; refine (vdigit_is _ true HG1.out _).mono ?_; rintro e w' ⟨rfl, rfl⟩)
                    go_roundg (gk - 1)
                    case measure => omega
                    case rel => exact ⟨pos + 1, rfl, by omega, by omega, by rw [← HR.out, HD.out, all_ok _ _ (tagC_dig _ HG1.out)]; rfl⟩
                  · have HG1 := Lib.hid (Bool.eq_false_iff.2 hd)
                    clear hd
                    by_cases hl : letB ((mkS t)[pos]'hp).toNat = true
                    · have hl2 : (97 : Int) ≤ ((mkS t)[pos]'hp).toNat ∧ (((mkS t)[pos]'hp).toNat : Int) ≤ 122 := by unfold letB at hl; simpa using hl
                      obtain ⟨hla, hlb⟩ := hl2
                      have HL1 := Lib.hid hl
                      clear hl
                      go_wp2_with (go_at_call 118; refine (vdigit_is _ false HG1.out _).mono ?_; rintro e w' ⟨rfl, rfl⟩)
                      go_roundg (gk - 1)
                      case measure => omega
                      case rel => exact ⟨pos + 1, rfl, by omega, by omega, by rw [← HR.out, HD.out, all_ok _ _ (tagC_let _ HL1.out)]; rfl⟩
                    · have HL1 := Lib.hid (Bool.eq_false_iff.2 hl)
                      by_cases h3 : (((mkS t)[pos]'hp).toNat : Int) = 45
                      · have h3b : ((((mkS t)[pos]'hp).toNat : Int) != 45) = false := by simp [h3]
                        have hla : (((mkS t)[pos]'hp).toNat : Int) < 97 := by omega
                        have H3 := Lib.hid h3
                        clear h3 hl
                        go_wp2_with (go_at_call 118; refine (vdigit_is _ false HG1.out _).mono ?_; rintro e w' ⟨rfl, rfl⟩)
                        go_roundg (gk - 1)
                        case measure => omega
                        case rel => exact ⟨pos + 1, rfl, by omega, by omega, by rw [← HR.out, HD.out, all_ok _ _ (tagC_dash _ H3.out)]; rfl⟩
                      · have h3b : ((((mkS t)[pos]'hp).toNat : Int) != 45) = true := by simpa using h3
                        have hE : lst s = (acc, false) := by
                          rw [HL.out, show 4 - k = (3 - k) + 1 from by omega, HG.out, HA.out, ← HR.out, HD.out, all_bad _ _ (tagC_bad _ HG1.out HL1.out h3)]; simp
                        have HE := Lib.hid hE
                        clear hE h3
                        have hl3 : (((mkS t)[pos]'hp).toNat : Int) < 97 ∨ (122 : Int) < ((mkS t)[pos]'hp).toNat := by
                          unfold letB at hl; simp at hl; omega
                        clear hl
                        rcases hl3 with hl3 | hl3
                        · go_wp2_with (first
                            | (go_at_call 118; refine (vdigit_is _ false HG1.out _).mono ?_; rintro e w' ⟨rfl, rfl⟩)
                            | (refine wpList_load_row rfl 107 _ rfl (w.heap.size + 1) rfl _ _ _ _ ((heap_iter _ _ _ hs1).trans HB12.out) Tryz.underlying107 rfl (by kernel_rfl) ?_)
                            | (refine wpList_store_row rfl 107 _ _ rfl w.heap.size (lcells acc) rfl rfl _ _ ((heap_iter _ _ _ hs0).trans HB02.out) (by kernel_rfl) rfl (lcells_one acc) ?_))
                          exact list_done rfl rfl ((heap_iter _ _ _ hs0).trans HB02.out) ((hbel.trans (hb2.mono hbel.size)).trans ((below_iter _ _ _).mono hb0)) HE.out
                        · have hl4 : (97 : Int) ≤ ((mkS t)[pos]'hp).toNat := by omega
                          have hl5 : (!decide ((((mkS t)[pos]'hp).toNat : Int) ≤ 122)) = true := by simp; omega
                          go_wp2_with (first
                            | (go_at_call 118; refine (vdigit_is _ false HG1.out _).mono ?_; rintro e w' ⟨rfl, rfl⟩)
                            | (refine wpList_load_row rfl 107 _ rfl (w.heap.size + 1) rfl _ _ _ _ ((heap_iter _ _ _ hs1).trans HB12.out) Tryz.underlying107 rfl (by kernel_rfl) ?_)
                            | (refine wpList_store_row rfl 107 _ _ rfl w.heap.size (lcells acc) rfl rfl _ _ ((heap_iter _ _ _ hs0).trans HB02.out) (by kernel_rfl) rfl (lcells_one acc) ?_))
                          exact list_done rfl rfl ((heap_iter _ _ _ hs0).trans HB02.out) ((hbel.trans (hb2.mono hbel.size)).trans ((below_iter _ _ _).mono hb0)) HE.out
                · have hnx : ∀ ty, (Instr.next (.pointer (some ⟨w2.heap.size, 0, none⟩)) true ty).run Tryz.prog (w2.iter (mkS t) pos) = _ := fun ty => run_next_any w2 (mkS t) pos ty hp
                  have hhi := (decode_high (mkS t) pos hp (by omega)).1
                  have HG1 := Lib.hid (digB_hi _ hhi)
                  have h3b : (((Utf8.decode (mkS t) pos).1 : Int) != 45) = true := by simp; omega
                  have hl3 : (122 : Int) < (Utf8.decode (mkS t) pos).1 := by omega
                  have hl4 : (97 : Int) ≤ (Utf8.decode (mkS t) pos).1 := by omega
                  have hl5 : (!decide (((Utf8.decode (mkS t) pos).1 : Int) ≤ 122)) = true := by simp; omega
                  have hE : lst s = (acc, false) := by
                    rw [HL.out, show 4 - k = (3 - k) + 1 from by omega, HG.out, HA.out, ← HR.out, HD.out, all_bad _ _ (tagC_bad _ (digB_hi8 _ (by omega)) (letB_hi8 _ (by omega)) (by omega))]; simp
                  have HE := Lib.hid hE
                  clear hE
                  go_wp2_with (first
                    | (go_at_call 118; refine (vdigit_is _ false HG1.out _).mono ?_; rintro e w' ⟨rfl, rfl⟩)
                    | (refine wpList_load_row rfl 107 _ rfl (w.heap.size + 1) rfl _ _ _ _ ((heap_iter _ _ _ hs1).trans HB12.out) Tryz.underlying107 rfl (by kernel_rfl) ?_)
                    | (refine wpList_store_row rfl 107 _ _ rfl w.heap.size (lcells acc) rfl rfl _ _ ((heap_iter _ _ _ hs0).trans HB02.out) (by kernel_rfl) rfl (lcells_one acc) ?_))
                  exact list_done rfl rfl ((heap_iter _ _ _ hs0).trans HB02.out) ((hbel.trans (hb2.mono hbel.size)).trans ((below_iter _ _ _).mono hb0)) HE.out
              · have hnx : ∀ ty, (Instr.next (.pointer (some ⟨w2.heap.size, 0, none⟩)) true ty).run Tryz.prog (w2.iter (mkS t) pos) = _ := fun ty => run_next_end w2 (mkS t) pos ty hp
                have hd0 := drop_end (mkS t) pos hp
                rw [mk_data] at hd0
                have hA : tagOk t = true := by rw [HA.out, ← HR.out, hd0]; rfl
                have HAT := Lib.hid hA
                clear hd0 hA
                obtain ⟨hcell, hfro⟩ := cell_row (j := k) ((heap_iter w2 (mkS t) pos hs1).trans HB12.out) (by rw [lcells_size]; omega)
                go_wp2
                have hg1 : (w2.iter (mkS t) pos).heap[w.heap.size + 1]? = some (.cells (lcells acc) 107) := (heap_iter _ _ _ hs1).trans HB12.out
                have hg0 : (w2.iter (mkS t) pos).heap[w.heap.size]? = some (.cells (lcells []) 107) := (heap_iter _ _ _ hs0).trans HB02.out
                have hset := setCell_eq_setRow _ _ k _ _ _ (.string (mkS t)) hg1
                rw [lcells_snoc acc t k HKL.out (by omega)] at hset
                have hbw : Below w.heap.size w (w2.iter (mkS t) pos) := (hbel.trans (hb2.mono hbel.size)).trans ((below_iter _ _ _).mono hb0)
                rw [hset]
                go_roundg g
                case measure => omega
                case rel =>
                  refine ⟨acc ++ [t], rest, k + 1, !more, by omega, rfl, rfl, by go_num, by omega, ?_, setRow_heap _ _ _ _ _ _ hg1, below_setRow hbw (by omega) _, ?_, ?_⟩
                  · rw [← hg0]; exact setRow_apart _ _ _ _ (by omega)
                  · intro h
                    have hm : more = false := by simpa using h
                    rw [HL.out, show 4 - k = (3 - k) + 1 from by omega, HG.out, HAT.out, hm]; simp
                  · intro h
                    have hm : more = true := by simpa using h
                    refine ⟨by rw [List.length_append, HKL.out]; rfl, ?_⟩
                    rw [HL.out, show 4 - k = (3 - k) + 1 from by omega, HG.out, HAT.out, hm, show 4 - (k + 1) = 3 - k from by omega]; simp
          · have h8i : (8 : Int) < (mkS t).size := by omega
            have hE : lst s = (acc, false) := by rw [HL.out, show 4 - k = (3 - k) + 1 from by omega, HG.out, tagOk_long (by omega)]; simp
            have HE := Lib.hid hE
            clear hE ht0
            go_wp2_with (first
              | (go_at_call 35; refine cC.mono ?_; rintro e w2 ⟨rfl, hb2⟩; have HB02 := Lib.hid ((hb2.block w.heap.size (by omega)).trans HB0.out); have HB12 := Lib.hid ((hb2.block (w.heap.size + 1) hsz0).trans HB1.out))
              | (refine wpList_load_row rfl 107 _ rfl (w.heap.size + 1) rfl _ _ _ _ HB12.out Tryz.underlying107 rfl (by kernel_rfl) ?_)
              | (refine wpList_store_row rfl 107 _ _ rfl w.heap.size (lcells acc) rfl rfl _ _ HB02.out (by kernel_rfl) rfl (lcells_one acc) ?_))
            exact list_done rfl rfl HB02.out (hbel.trans (hb2.mono hbel.size)) HE.out

theorem list_any (s : List UInt8) (w : World) (hs : s.length < 4294967281) :
    Calls Tryz.prog 81 #[.string (mkS s)] w fun e w' => e = .returned (.tuple #[.agg (lcells (lst s).1), .bool (lst s).2]) ∧ Below w.heap.size w w' := list_any0 s w hs
end Go.Proofs.YtjabcbagggicaaaGreatDoor
end

section
/-
  Plain mathematics for chapter 2: versions, their strings, and that a string is read back.
-/
namespace Go.Proofs.YtjabcbagggicaaaGreatDoor
open Go.RowKit

structure Ver where
  maj : Int
  min : Int
  pat : Int
  pre : List UInt8
  build : List UInt8
deriving DecidableEq

def numOkI (n : Int) : Bool := decide (0 ≤ n ∧ n ≤ 9999)
def Ver.may (v : Ver) : Bool := numOkI v.maj && numOkI v.min && numOkI v.pat && preOk v.pre && listOk v.build
def Ver.zero : Ver := ⟨0, 0, 0, [], []⟩
def Ver.rel (a b c : Int) : Ver := ⟨a, b, c, [], []⟩
def tailS (c : UInt8) (l : List UInt8) : List UInt8 := if l.isEmpty then [] else c :: l
def numsL (v : Ver) : List UInt8 := Lib.itoa v.maj ++ 46 :: (Lib.itoa v.min ++ 46 :: Lib.itoa v.pat)
def Ver.text (v : Ver) : List UInt8 := numsL v ++ tailS 45 v.pre ++ tailS 43 v.build
def Ver.print (v : Ver) : List UInt8 := if v.may then v.text else []

/-! ### The numbers -/
theorem dec_more (n d : Nat) (hn : 1 ≤ n) (hd : d < 10) : Lib.decDigits (n * 10 + d) = Lib.decDigits n ++ [UInt8.ofNat (48 + d)] := by
  rw [Lib.decDigits, dif_neg (by omega), show (n * 10 + d) / 10 = n from by omega, show (n * 10 + d) % 10 = d from by omega]
theorem dig_byte {c : UInt8} (h : digB c.toNat = true) : c.toNat - 48 < 10 ∧ UInt8.ofNat (48 + (c.toNat - 48)) = c := by
  unfold digB at h; simp at h
  refine ⟨by omega, ?_⟩
  rw [show 48 + (c.toNat - 48) = c.toNat from by omega]; exact UInt8.ofNat_toNat
theorem numGo_tail (l : List UInt8) : ∀ n m, 1 ≤ n → n ≤ 9999 → numGo n false l = some m → Lib.decDigits m = Lib.decDigits n ++ l ∧ m ≤ 9999 := by
  induction l with
  | nil => intro n m _ h9 h; simp [numGo] at h; subst h; simp [h9]
  | cons c r ih =>
    intro n m hn h9 h
    by_cases hd : digB c.toNat = true
    · by_cases hb : n * 10 + (c.toNat - 48) ≤ 9999
      · rw [numGo_on n false c r hd (by omega) hb] at h
        obtain ⟨h1, h2⟩ := dig_byte hd
        obtain ⟨i1, i2⟩ := ih _ m (by omega) hb h
        rw [dec_more n _ hn h1, h2] at i1
        exact ⟨by rw [i1]; simp, i2⟩
      · rw [numGo_big n false c r hb] at h; cases h
    · rw [numGo_bad n false c r (Bool.eq_false_iff.2 hd)] at h; cases h
theorem numGo_back (l : List UInt8) (n : Nat) (h : numGo 0 true l = some n) : l = Lib.decDigits n ∧ n ≤ 9999 := by
  cases l with
  | nil => simp [numGo] at h
  | cons c r =>
    by_cases hd : digB c.toNat = true
    · obtain ⟨h1, h2⟩ := dig_byte hd
      rw [numGo_on 0 true c r hd (by simp) (by omega), show 0 * 10 + (c.toNat - 48) = c.toNat - 48 from by omega] at h
      by_cases h0 : c.toNat - 48 = 0
      · rw [h0] at h h2
        cases r with
        | nil => simp [numGo] at h; subst h; rw [← h2, Lib.decDigits, dif_pos (by omega)]; simp
        | cons c2 r2 => rw [numGo_zero] at h; cases h
      · obtain ⟨i1, i2⟩ := numGo_tail r _ n (by omega) (by omega) h
        rw [Lib.decDigits_one h1, h2] at i1
        exact ⟨by rw [i1]; rfl, i2⟩
    · rw [numGo_bad 0 true c r (Bool.eq_false_iff.2 hd)] at h; cases h
theorem dig_mem (u : Nat) : ∀ x ∈ Lib.decDigits u, digB x.toNat = true := by
  have h := (dec_fold u).1
  unfold allDig at h
  exact List.all_eq_true.1 h
theorem itoa_nat {n : Int} (h : numOkI n = true) : Lib.itoa n = Lib.decDigits n.toNat := by
  unfold numOkI at h; simp at h
  unfold Lib.itoa; rw [if_neg (by omega)]
theorem num_itoa {n : Int} (h : numOkI n = true) : numGo 0 true (Lib.itoa n) = some n.toNat := by
  rw [itoa_nat h, num_dec, if_pos]
  unfold numOkI at h; simp at h; omega
theorem dig_free {n : Int} (h : numOkI n = true) (b : UInt8) (hb : digB b.toNat = false) : b ∉ Lib.itoa n := by
  rw [itoa_nat h]
  intro hm
  have := dig_mem _ _ hm
  rw [this] at hb; cases hb
/-! ### Tags hold no plus; their lists neither -/
theorem splitL_acc (b : UInt8) (l : List UInt8) : ∀ acc, ∀ c ∈ acc, ∃ x ∈ splitL b acc l, c ∈ x := by
  induction l with
  | nil => intro acc c h; exact ⟨acc, by simp [splitL], h⟩
  | cons d r ih =>
    intro acc c hc
    rw [show splitL b acc (d :: r) = if d = b then acc :: splitL b [] r else splitL b (acc ++ [d]) r from rfl]
    by_cases h : d = b
    · rw [if_pos h]; exact ⟨acc, by simp, hc⟩
    · rw [if_neg h]; exact ih _ c (by simp [hc])
theorem splitL_mem (b : UInt8) (l : List UInt8) : ∀ acc, ∀ c ∈ l, c = b ∨ ∃ x ∈ splitL b acc l, c ∈ x := by
  induction l with
  | nil => intro acc c h; cases h
  | cons d r ih =>
    intro acc c hc
    rw [show splitL b acc (d :: r) = if d = b then acc :: splitL b [] r else splitL b (acc ++ [d]) r from rfl]
    by_cases h : d = b
    · rw [if_pos h]
      rcases List.mem_cons.1 hc with rfl | hc
      · exact .inl h
      · rcases ih [] c hc with e | ⟨x, hx, hcx⟩
        · exact .inl e
        · exact .inr ⟨x, List.mem_cons_of_mem _ hx, hcx⟩
    · rw [if_neg h]
      rcases List.mem_cons.1 hc with rfl | hc
      · exact .inr (splitL_acc b r (acc ++ [c]) c (by simp))
      · exact ih _ c hc
/-! ### Reading a string: what package version guesses, and the document's own answer -/
def numD (l : List UInt8) : Int := ((numGo 0 true l).getD 0 : Nat)
def guess (s : List UInt8) : Ver :=
  let r := (cutAt 43 s).1
  let q := (cutAt 45 r).1
  let x := cutAt 46 q
  let y := cutAt 46 x.2.1
  ⟨numD x.1, numD y.1, numD y.2.1, (cutAt 45 r).2.1, (cutAt 43 s).2.1⟩
def three (l : List (List UInt8)) : Option (Int × Int × Int) :=
  match l with
  | [x, y, z] => if numI x && numI y && numI z then some (numD x, numD y, numD z) else none
  | _ => none
def parseR (s : List UInt8) : Option Ver :=
  let b := cutAt 43 s
  let p := cutAt 45 b.1
  match three (pcs p.1) with
  | none => none
  | some (x, y, z) =>
    if (p.2.2 && p.2.1.isEmpty) || (b.2.2 && b.2.1.isEmpty) then none
    else if (Ver.mk x y z p.2.1 b.2.1).may then some ⟨x, y, z, p.2.1, b.2.1⟩ else none
def parseI (s : List UInt8) : Option Ver := if (guess s).print = s then some (guess s) else none

theorem cut_tail (c : UInt8) (x y : List UInt8) (h : c ∉ x) : cutAt c (x ++ tailS c y) = (x, y, !y.isEmpty) := by
  unfold tailS
  cases y with
  | nil => simp [cutAt_miss c x h]
  | cons a r => simp [cutAt_hit c x (a :: r) h]
theorem numD_itoa {n : Int} (h : numOkI n = true) : numD (Lib.itoa n) = n := by
  unfold numD; rw [num_itoa h]
  unfold numOkI at h; simp at h
  show ((n.toNat : Nat) : Int) = n; omega
theorem may_nums {v : Ver} (h : v.may = true) : numOkI v.maj = true ∧ numOkI v.min = true ∧ numOkI v.pat = true := by
  unfold Ver.may at h; simp only [Bool.and_eq_true] at h
  exact ⟨h.1.1.1.1, h.1.1.1.2, h.1.1.2⟩
theorem numI_itoa {n : Int} (h : numOkI n = true) : numI (Lib.itoa n) = true := by unfold numI; rw [num_itoa h]; rfl
end Go.Proofs.YtjabcbagggicaaaGreatDoor
end

section
/-
  Package version: mayPre, numbers, release, number and May: what they return for strings of at most 2^32 - 16 bytes; nothing that was there is changed.
-/
namespace Go.Proofs.YtjabcbagggicaaaGreatDoor
open Go.RowKit

theorem numV_mk (t : List UInt8) : numV (mkS t) = numD t := by unfold numV numB numD; rw [mk_data]
theorem numOk_mk (t : List UInt8) : numOk (mkS t) = numI t := by unfold numOk numB numI; rw [mk_data]
theorem mkS_sz (t : List UInt8) : (mkS t).size = t.length := by unfold mkS; simp [ByteArray.size]
/-- ident.Number at a byte list. -/
theorem number_mk (t : List UInt8) (b : Bool) (hb : numI t = b) (w : World) (ht : t.length ≤ maxLen) :
    Calls Tryz.prog 37 #[.string (mkS t)] w fun e w' => e = .returned (.tuple #[.int .i64 (numD t), .bool b]) ∧ Below w.heap.size w w' := by
  have := number_any (mkS t) w (by rw [mkS_sz]; exact ht)
  rw [numV_mk, numOk_mk, hb] at this
  exact this
theorem numeric_mk (t : List UInt8) (b : Bool) (hb : numer t = b) (w : World) (ht : t.length ≤ maxLen) :
    Calls Tryz.prog 119 #[.string (mkS t)] w fun e w' => e = .returned (.bool b) ∧ Below w.heap.size w w' := by
  have := vnumeric_any (mkS t) w (by rw [mkS_sz]; exact ht)
  rw [mk_data, hb] at this
  exact this
theorem list_lit (s : List UInt8) (w : World) (hs : s.length < 4294967281) :
    Calls Tryz.prog 81 #[.string (mkS s)] w fun e w' => e = .returned (.tuple #[.agg #[.string (mkS (tg (lst s).1 0)), .string (mkS (tg (lst s).1 1)), .string (mkS (tg (lst s).1 2)), .string (mkS (tg (lst s).1 3))], .bool (lst s).2]) ∧ Below w.heap.size w w' := list_any s w hs
theorem ix_tag0 (a b c d : Value) (w : World) : (Instr.index 107 (.agg #[a, b, c, d]) (.int .i64 0)).run Tryz.prog w = .ok a w := by kernel_rfl
theorem ix_tag1 (a b c d : Value) (w : World) : (Instr.index 107 (.agg #[a, b, c, d]) (.int .i64 1)).run Tryz.prog w = .ok b w := by kernel_rfl
theorem ix_tag2 (a b c d : Value) (w : World) : (Instr.index 107 (.agg #[a, b, c, d]) (.int .i64 2)).run Tryz.prog w = .ok c w := by kernel_rfl
theorem ix_tag3 (a b c d : Value) (w : World) : (Instr.index 107 (.agg #[a, b, c, d]) (.int .i64 3)).run Tryz.prog w = .ok d w := by kernel_rfl
theorem ix_tag (l : List (List UInt8)) (k : Nat) (hk : k < 4) (w : World) :
    (Instr.index 107 (.agg #[.string (mkS (tg l 0)), .string (mkS (tg l 1)), .string (mkS (tg l 2)), .string (mkS (tg l 3))]) (.int .i64 k)).run Tryz.prog w = .ok (.string (mkS (tg l k))) w := by
  match k, hk with
  | 0, _ => exact ix_tag0 _ _ _ _ w
  | 1, _ => exact ix_tag1 _ _ _ _ w
  | 2, _ => exact ix_tag2 _ _ _ _ w
  | 3, _ => exact ix_tag3 _ _ _ _ w
theorem all_four (l : List (List UInt8)) (h4 : l.length ≤ 4) (h : ∀ j, j < 4 → preT (tg l j) = true) : l.all preT = true := by
  rw [← tg_all preT_nil l h4, h 0 (by omega), h 1 (by omega), h 2 (by omega), h 3 (by omega)]; rfl
theorem not_four (l : List (List UInt8)) (h4 : l.length ≤ 4) (j : Nat) (hj : j < 4) (h : preT (tg l j) = false) : l.all preT = false := by
  rw [← tg_all preT_nil l h4]
  match j, hj with
  | 0, _ => rw [h]; rfl
  | 1, _ => rw [h]; simp
  | 2, _ => rw [h]; simp
  | 3, _ => rw [h]; simp

set_option maxHeartbeats 2000000 in
theorem mayPre_any (s : List UInt8) (w : World) (hs : s.length < 4294967281) :
    Calls Tryz.prog 82 #[.string (mkS s)] w fun e w' => e = .returned (.bool (preOk s)) ∧ Below w.heap.size w w' := by
  have hl4 := lst_len s
  have hl8 := tg_len s
  have hP := preOk_lst s
  obtain ⟨L, hL⟩ : ∃ L, (lst s).1 = L := ⟨_, rfl⟩
  obtain ⟨o, ho⟩ : ∃ o, (lst s).2 = o := ⟨_, rfl⟩
  have cL := list_lit s w hs
  rw [hL, ho] at cL
  rw [hL] at hl4 hl8 hP
  rw [ho] at hP
  have HP := Lib.hid hP
  have H8 := Lib.hid hl8
  clear hP hl8 hL ho
  go_enter Tryz.func82, Tryz.ntmps82
  go_wp2_with (go_at_call 81; refine cL.mono ?_; rintro e w1 ⟨rfl, hb1⟩)
  go_loopw [15] (fun v wr => ∃ k : Nat, k ≤ 4 ∧ v = .int .i64 k ∧ Below w.heap.size w wr ∧ Hid (∀ j, j < k → preT (tg L j) = true)) (fun v _ => 4 - (intOf v).toNat)
  case atStart => exact ⟨0, by omega, rfl, hb1.alloc hb1.size _, fun j hj => by omega⟩
  case round =>
    obtain ⟨k, hk, rfl, hbel, HR⟩ := hrel
    by_cases hk4 : k < 4
    · have hki : (k : Int) < 4 := by omega
      have hix : ∀ w, (Instr.index 107 (.agg #[.string (mkS (tg L 0)), .string (mkS (tg L 1)), .string (mkS (tg L 2)), .string (mkS (tg L 3))]) (.int .i64 k)).run Tryz.prog w = .ok (.string (mkS (tg L k))) w := ix_tag L k hk4
      have h8 : (tg L k).length ≤ 8 := H8.out k
      have hm : (tg L k).length ≤ maxLen := by unfold maxLen; omega
      cases hi : numI (tg L k) with
      | true =>
        have HI := Lib.hid hi
        clear hi
        cases hn : numer (tg L k)
        all_goals
          have HN := Lib.hid hn
          clear hn
          go_wp2_with (first
            | (go_at_call 37; refine (number_mk _ true HI.out _ hm).mono ?_; rintro e w2 ⟨rfl, hb2⟩)
            | (go_at_call 119; refine (numeric_mk _ _ HN.out _ hm).mono ?_; rintro e w3 ⟨rfl, hb3⟩))
          go_roundw
          case rel => exact ⟨k + 1, by omega, by go_num, (hbel.trans (hb2.mono hbel.size)).trans (hb3.mono (by have := hb2.size; have := hbel.size; omega)), fun j hj => by
            by_cases h : j < k
            · exact HR.out j h
            · obtain rfl : j = k := by omega
              unfold preT; rw [HI.out]; simp⟩
          case measure => simp [intOf]; omega
      | false =>
        have HI := Lib.hid hi
        clear hi
        cases hn : numer (tg L k) with
        | true =>
          have HN := Lib.hid hn
          clear hn
          go_wp2_with (first
            | (go_at_call 37; refine (number_mk _ false HI.out _ hm).mono ?_; rintro e w2 ⟨rfl, hb2⟩)
            | (go_at_call 119; refine (numeric_mk _ _ HN.out _ hm).mono ?_; rintro e w3 ⟨rfl, hb3⟩))
          go_ret
          exact ⟨ret_bool (by rw [HP.out, not_four L hl4 k hk4 (by unfold preT; rw [HN.out, HI.out]; rfl), Bool.and_false]), (hbel.trans (hb2.mono hbel.size)).trans (hb3.mono (by have := hb2.size; have := hbel.size; omega))⟩
        | false =>
          have HN := Lib.hid hn
          clear hn
          go_wp2_with (first
            | (go_at_call 37; refine (number_mk _ false HI.out _ hm).mono ?_; rintro e w2 ⟨rfl, hb2⟩)
            | (go_at_call 119; refine (numeric_mk _ _ HN.out _ hm).mono ?_; rintro e w3 ⟨rfl, hb3⟩))
          go_roundw
          case rel => exact ⟨k + 1, by omega, by go_num, (hbel.trans (hb2.mono hbel.size)).trans (hb3.mono (by have := hb2.size; have := hbel.size; omega)), fun j hj => by
            by_cases h : j < k
            · exact HR.out j h
            · obtain rfl : j = k := by omega
              unfold preT; rw [HN.out]; simp⟩
          case measure => simp [intOf]; omega
    · have hki : ¬ (k : Int) < 4 := by omega
      go_wp2
      go_ret
      exact ⟨ret_bool (by rw [HP.out, all_four L hl4 (fun j hj => HR.out j (by omega)), Bool.and_true]), hbel⟩

/-- A version as a value. -/
def verV (v : Ver) : Value := .agg #[.int .i64 v.maj, .int .i64 v.min, .int .i64 v.pat, .string (mkS v.pre), .string (mkS v.build)]
theorem numbers_any (v : Ver) (w : World) :
    Calls Tryz.prog 80 #[verV v] w fun e w' => e = .returned (.agg #[.int .i64 v.maj, .int .i64 v.min, .int .i64 v.pat]) ∧ Below w.heap.size w w' := by
  obtain ⟨a, b, c, p, q⟩ := v
  unfold verV
  dsimp only
  go_enter Tryz.func80, Tryz.ntmps80
  go_wp2
  exact bodyPost_ret (v := .agg #[.int .i64 a, .int .i64 b, .int .i64 c]) (by simp [results, Tryz.results80, go_sem]) rfl ⟨rfl, ((Below.refl _ _).alloc (Nat.le_refl _) _).alloc (by simp) _⟩
theorem release_any (a b c : Int) (w : World) :
    Calls Tryz.prog 147 #[.agg #[.int .i64 a, .int .i64 b, .int .i64 c]] w fun e w' => e = .returned (verV (Ver.rel a b c)) ∧ Below w.heap.size w w' := by
  go_enter Tryz.func147, Tryz.ntmps147
  go_wp2
  exact bodyPost_ret (v := .agg #[.int .i64 a, .int .i64 b, .int .i64 c, .string ⟨#[]⟩, .string ⟨#[]⟩]) (by simp [results, Tryz.results147, go_sem]) rfl ⟨rfl, ((Below.refl _ _).alloc (Nat.le_refl _) _).alloc (by simp) _⟩
theorem ix_num0 (a b c : Value) (w : World) : (Instr.index 55 (.agg #[a, b, c]) (.int .i64 0)).run Tryz.prog w = .ok a w := by kernel_rfl
theorem ix_num1 (a b c : Value) (w : World) : (Instr.index 55 (.agg #[a, b, c]) (.int .i64 1)).run Tryz.prog w = .ok b w := by kernel_rfl
theorem ix_num2 (a b c : Value) (w : World) : (Instr.index 55 (.agg #[a, b, c]) (.int .i64 2)).run Tryz.prog w = .ok c w := by kernel_rfl
def nth3 (a b c : Int) (k : Nat) : Int := if k = 0 then a else if k = 1 then b else c
theorem ix_num (a b c : Int) (k : Nat) (hk : k < 3) (w : World) :
    (Instr.index 55 (.agg #[.int .i64 a, .int .i64 b, .int .i64 c]) (.int .i64 k)).run Tryz.prog w = .ok (.int .i64 (nth3 a b c k)) w := by
  match k, hk with
  | 0, _ => exact ix_num0 _ _ _ w
  | 1, _ => exact ix_num1 _ _ _ w
  | 2, _ => exact ix_num2 _ _ _ w
theorem nth3_all {a b c : Int} (h : ∀ j, j < 3 → numOkI (nth3 a b c j) = true) : (numOkI a && numOkI b && numOkI c) = true := by
  have h0 := h 0 (by omega); have h1 := h 1 (by omega); have h2 := h 2 (by omega)
  unfold nth3 at h0 h1 h2
  simp at h0 h1 h2
  rw [h0, h1, h2]; rfl
theorem nth3_not {a b c : Int} (j : Nat) (hj : j < 3) (h : numOkI (nth3 a b c j) = false) : (numOkI a && numOkI b && numOkI c) = false := by
  match j, hj with
  | 0, _ => rw [show numOkI a = false from h]; rfl
  | 1, _ => rw [show numOkI b = false from h]; simp
  | 2, _ => rw [show numOkI c = false from h]; simp
theorem may_eq (v : Ver) : v.may = ((numOkI v.maj && numOkI v.min && numOkI v.pat) && (preOk v.pre && listOk v.build)) := by
  unfold Ver.may; rw [Bool.and_assoc]

/-- The cells of a box that holds a version, in a later world. -/
theorem box_cells {w w1 : World} {T : TypeId} {cs : Array Value} (hb : Below (w.alloc (.cells cs T)).heap.size (w.alloc (.cells cs T)) w1) (j : Nat) (hj : j < cs.size) : w1.cell? ⟨w.heap.size, j, none⟩ = some cs[j] ∧ w1.frozen? ⟨w.heap.size, j, none⟩ = false := by
  have h : w1.heap[w.heap.size]? = some (.cells cs T) := (hb.block _ (by simp)).trans (heap_new w _)
  exact cell_row h hj
theorem size_box (w : World) (o : Obj) : (w.alloc o).heap.size = w.heap.size + 1 := by simp

set_option maxHeartbeats 2000000 in
theorem may_any (v : Ver) (w : World) (hp : v.pre.length < 4294967281) (hq : v.build.length < 4294967281) :
    Calls Tryz.prog 47 #[verV v] w fun e w' => e = .returned (.bool v.may) ∧ Below w.heap.size w w' := by
  have hM := may_eq v
  have cN := fun w' => numbers_any v w'
  obtain ⟨a, b, c, p, q⟩ := v
  unfold verV at cN ⊢
  dsimp only at cN hM hp hq ⊢
  have HM := Lib.hid hM
  clear hM
  go_enter Tryz.func47, Tryz.ntmps47
  go_wp2_with (go_at_call 80; refine (cN _).mono ?_; rintro e w1 ⟨rfl, hb1⟩)
  obtain ⟨c3, f3⟩ := box_cells hb1 3 (by simp)
  obtain ⟨c4, f4⟩ := box_cells hb1 4 (by simp)
  have hs1 : w.heap.size < w1.heap.size := by have := hb1.size; rw [size_box] at this; omega
  have hbw : Below w.heap.size w w1 := ((Below.refl _ _).alloc (Nat.le_refl _) _).trans (hb1.mono (by simp))
  simp only [List.getElem_toArray, List.getElem_cons_succ, List.getElem_cons_zero] at c3 c4
  go_loop [9] (fun x => ∃ k : Nat, k ≤ 3 ∧ x = .int .i64 k ∧ Hid (∀ j, j < k → numOkI (nth3 a b c j) = true)) (fun x => 3 - (intOf x).toNat)
  case atStart => exact ⟨0, by omega, rfl, fun j hj => by omega⟩
  case round =>
    obtain ⟨k, hk, rfl, HR⟩ := hrel
    by_cases hk3 : k < 3
    · have hki : (k : Int) < 3 := by omega
      have hix : ∀ w, (Instr.index 55 (.agg #[.int .i64 a, .int .i64 b, .int .i64 c]) (.int .i64 k)).run Tryz.prog w = .ok (.int .i64 (nth3 a b c k)) w := ix_num a b c k hk3
      by_cases h0 : nth3 a b c k < 0
      · have hbad : numOkI (nth3 a b c k) = false := by unfold numOkI; simp; omega
        have HB := Lib.hid hbad
        clear hbad
        go_wp2
        go_ret
        exact ⟨ret_bool (by rw [HM.out, nth3_not k hk3 HB.out]; rfl), hbw⟩
      · by_cases h9 : 9999 < nth3 a b c k
        · have hbad : numOkI (nth3 a b c k) = false := by unfold numOkI; simp; omega
          have HB := Lib.hid hbad
          clear hbad
          go_wp2
          go_ret
          exact ⟨ret_bool (by rw [HM.out, nth3_not k hk3 HB.out]; rfl), hbw⟩
        · have hok : numOkI (nth3 a b c k) = true := by unfold numOkI; simp; omega
          have HB := Lib.hid hok
          clear hok
          go_wp2
          go_round
          case rel => exact ⟨k + 1, by omega, by go_num, fun j hj => by
            by_cases h : j < k
            · exact HR.out j h
            · obtain rfl : j = k := by omega
              exact HB.out⟩
          case measure => simp [intOf]; omega
    · have hki : ¬ (k : Int) < 3 := by omega
      have h3 := Lib.hid (nth3_all fun j hj => HR.out j (by omega))
      have cL := list_lit q w1 hq
      rw [lst_ok] at cL
      cases ho : listOk q with
      | true =>
        rw [ho] at cL
        have HO := Lib.hid ho
        clear ho
        go_wp2_with (first
          | (go_at_call 81; refine cL.mono ?_; rintro e w2 ⟨rfl, hb2⟩; have c32 := (hb2.cell (p := ⟨w.heap.size, 3, none⟩) hs1).trans c3; have hs2 : w.heap.size < w2.heap.size := Nat.lt_of_lt_of_le hs1 hb2.size)
          | (go_at_call 82; refine (mayPre_any p _ hp).mono ?_; rintro e w3 ⟨rfl, hb3⟩))
        go_ret
        exact ⟨ret_bool (by rw [HM.out, h3.out, HO.out]; simp), ((hbw.trans (hb2.mono hbw.size)).alloc (by omega) _).trans (hb3.mono (by simp; omega))⟩
      | false =>
        rw [ho] at cL
        have HO := Lib.hid ho
        clear ho
        go_wp2_with (go_at_call 81; refine cL.mono ?_; rintro e w2 ⟨rfl, hb2⟩; have c32 := (hb2.cell (p := ⟨w.heap.size, 3, none⟩) hs1).trans c3; have hs2 : w.heap.size < w2.heap.size := Nat.lt_of_lt_of_le hs1 hb2.size)
        go_ret
        exact ⟨ret_bool (by rw [HM.out, h3.out, HO.out]; simp), (hbw.trans (hb2.mono hbw.size)).alloc (by omega) _⟩
end Go.Proofs.YtjabcbagggicaaaGreatDoor
end

section
/-
  A slice that the call has made, behind calls that change nothing of what was there.
-/
namespace Go.Proofs.YtjabcbagggicaaaGreatDoor
open Go.RowKit

end Go.Proofs.YtjabcbagggicaaaGreatDoor
end

section
/-
  strings.Builder as this program holds it: what copyCheck, WriteByte and WriteString do to a builder that the call itself has made: it holds the bytes that it held and the new ones; nothing else that was there is changed. Condition: at most 2^47 bytes.
-/
namespace Go.Proofs.YtjabcbagggicaaaGreatDoor
open Go.RowKit

theorem freeze_draws (w : World) (a : Addr) (m : Nat) : (w.freeze a m).drawn = w.drawn := by unfold World.freeze; split <;> rfl
/-- The operation append(s, x...) of bytes of a string to a slice of the call's own; the draws do not go back. -/
theorem wp_append_text {P : Program} {w : World} {ops : Array Oper} {rest : List Oper} {o : Oper} {a : Act} {Q : Exit → Act → World → Prop} (hgd : o.guard = none) (sl x : Operand) (t u : TypeId)
    (ho : o.op = .call { callee := .builtin .append, args := #[sl, x], argTypes := #[t, u] })
    (B : Nat) (e : TypeId) (i : TypeInfo) (ht : P.underlying t = some (.slice e)) (hu : P.underlying u = some .string) (hi : P.info? e = some i) (hz : i.zero = some (.int .u8 0)) (h1 : i.size = 1) (h2 : i.bytes = 1)
    (v : Value) (n : Nat) (xs : List Value) (hs : a.eval sl = v) (hown : w.ownsRow B e 1 v n xs) (s : ByteArray) (hx : a.eval x = .string s) (h63 : n + s.size ≤ maxLen) (hb : n + s.size ≤ 140737488355328) (hB : B ≤ w.heap.size)
    (h : ∀ v' w', w'.ownsRow B e 1 v' (n + s.size) (xs ++ Lib.strCells s) → GrownD w w' v.ownBlock → wpList P ops Q rest (a.put o.dst v') w') : wpList P ops Q (o :: rest) a w :=
  wpList_plain hgd fun K hK => by
    obtain ⟨v', w', hr, k2, k3, _⟩ := Lib.run_append_own_string (P := P) (w := w) B t u o.type e i ht hu hi hz h1 h2 v n xs hown s h63 hb hB
    unfold Oper.wp execOp
    simp only [ho, resolve, invoke, builtin, Sem.run_bind, Sem.run_pure, Result.andThen_ok, List.map_toArray, List.map_cons, List.map_nil, hs, hx, hr]
    exact hK _ _ (h v' w' k2 ⟨k3, run_drawn P _ _ hr⟩)

theorem sizeBuilder : (Tryz.prog.info? 98).map (·.size) = some 2 := by kernel_rfl
theorem liesBuilder : liesAt Tryz.prog Tryz.prog.depth 98 (2 / Tryz.prog.cellsOf 98) 0 98 1 = true := by kernel_rfl
theorem infoByte : (Tryz.prog.info? 5).map (fun i => (i.zero, i.size, i.bytes)) = some (some (.int .u8 0), 1, 1) := by kernel_rfl

set_option maxHeartbeats 1000000 in
set_option maxRecDepth 100000 in
theorem copyCheck_used (b : Nat) (w : World) (h0 : w.cell? ⟨b, 0, none⟩ = some (.pointer (some ⟨b, 0, none⟩))) :
    Calls Tryz.prog 117 #[.pointer (some ⟨b, 0, none⟩)] w fun e w' => e = .returned (.tuple #[]) ∧ w' = w := by
  obtain ⟨j, hj, _⟩ := Option.map_eq_some_iff.1 sizeBuilder
  go_enter Tryz.func117, Tryz.ntmps117
  go_wp2
  rw [Lib.run_neq_ptr_same w _ Tryz.underlying95 hj]
  go_wp2
  go_end0
  exact ⟨rfl, rfl⟩

set_option maxHeartbeats 1000000 in
set_option maxRecDepth 100000 in
theorem copyCheck_fresh (b : Nat) (w : World) (h0 : w.cell? ⟨b, 0, none⟩ = some (.pointer none)) (hsh : w.shape? b = some (98, 2)) (hfz : w.frozen? ⟨b, 0, none⟩ = false) :
    Calls Tryz.prog 117 #[.pointer (some ⟨b, 0, none⟩)] w fun e w' => e = .returned (.tuple #[]) ∧ w' = w.setCell ⟨b, 0, none⟩ (.pointer (some ⟨b, 0, none⟩)) := by
  obtain ⟨j, hj, hjs⟩ := Option.map_eq_some_iff.1 sizeBuilder
  go_enter Tryz.func117, Tryz.ntmps117
  go_wp2
  rw [Lib.run_to_unsafe w ⟨b, 0, none⟩ Tryz.underlying95 Tryz.underlying141 hj (by rw [hjs]; decide) hsh (Nat.zero_lt_succ 1)]
  simp only [Result.andThen]
  rw [Oper.upon_value]
  go_wp2
  rw [run_callFunc_extern Tryz.func142 (by kernel_rfl) (by kernel_rfl) (by kernel_rfl) (e := Extern.AbiNoEscape.same) (by kernel_rfl)]
  rw [Lib.run_noEscape]
  simp only [Result.andThen]
  rw [Oper.upon_value]
  go_wp2
  rw [Lib.run_from_unsafe w ⟨b, 0, none⟩ Tryz.underlying141 Tryz.underlying95 hj hsh liesBuilder]
  simp only [Result.andThen]
  rw [Oper.upon_value]
  go_wp2
  go_end0
  exact ⟨rfl, rfl⟩

theorem copyCheck_any (B b : Nat) (bs : List Value) (w : World) (h : Lib.IsBuilder 98 5 B b bs w) :
    Calls Tryz.prog 117 #[.pointer (some ⟨b, 0, none⟩)] w fun e w' => e = .returned (.tuple #[]) ∧ (Lib.BuilderAt 98 5 B b (.pointer (some ⟨b, 0, none⟩)) bs w' ∧ Below B w w') := by
  rcases h with h | h
  · refine (copyCheck_fresh b w h.cell0 h.shape h.frozen0).mono ?_
    rintro e w' ⟨rfl, rfl⟩
    exact ⟨rfl, h.used _, (Below.refl B w).setCell (p := ⟨b, 0, none⟩) h.1 _⟩
  · refine (copyCheck_used b w h.cell0).mono ?_
    rintro e w' ⟨rfl, rfl⟩
    exact ⟨rfl, h, Below.refl B _⟩

set_option maxHeartbeats 2000000 in
set_option maxRecDepth 100000 in
theorem writeByte_any (B b : Nat) (bs : List Value) (c : Int) (w : World) (h : Lib.IsBuilder 98 5 B b bs w) (hlen : bs.length + 1 ≤ 140737488355328) (hBw : B ≤ w.heap.size) :
    Calls Tryz.prog 77 #[.pointer (some ⟨b, 0, none⟩), .int .u8 c] w fun e w' => e = .returned .nilIface ∧ (Lib.BuilderAt 98 5 B b (.pointer (some ⟨b, 0, none⟩)) (bs ++ [.int .u8 c]) w' ∧ Below B w w') := by
  obtain ⟨i0, hi, hz0, hz1, hz2⟩ := info_parts infoByte
  go_enter Tryz.func77, Tryz.ntmps77
  go_wp2_with (go_at_call 117; refine (copyCheck_any B b bs _ h).mono ?_)
  rintro e w1 ⟨rfl, h1, hb1⟩
  obtain ⟨hB, v, hbk, hown, hne⟩ := h1
  have c0 : w1.cell? ⟨b, 0, none⟩ = some (.pointer (some ⟨b, 0, none⟩)) := by rw [Lib.cell_of_heap hbk]; rfl
  have c1 : w1.cell? ⟨b, 1, none⟩ = some v := by rw [Lib.cell_of_heap hbk]; rfl
  go_wp2_with (at_builtin; refine wpList_append_own _ rfl _ _ 96 rfl B 5 i0 (.int .u8 0) 1 1 Tryz.underlying96 hi hz0 hz1 hz2 rfl (by decide) _ _ _ rfl (hown.alloc _) ⟨w1.heap.size, 0, none⟩ 1 1 [.int .u8 c] rfl rfl ?c1 ?c2 ?c3 ?c4 ?c5 ?_)
  case c1 =>
    intro j u hj
    match j, hj with
    | 0, hj => simp at hj; subst hj; simp [Addr.add]
  case c2 => intro u hu; simp at hu; subst hu; rfl
  case c3 => unfold maxLen; omega
  case c4 => omega
  case c5 => have := hb1.size; simp; omega
  intro v' w2 hown' hgrow _
  have hlt : b < w1.heap.size := by
    rcases Nat.lt_or_ge b w1.heap.size with h' | h'
    · exact h'
    · simp [Array.getElem?_eq_none h'] at hbk
  have hb2 : w2.heap[b]? = some (.cells #[.pointer (some ⟨b, 0, none⟩), v] 98 (0, 0)) := by
    rw [hgrow.old.block b (by simp; omega) (fun e => hne e.symm), Lib.alloc_old w1 _ b hlt]
    exact hbk
  have d0 : w2.cell? ⟨b, 0, none⟩ = some (.pointer (some ⟨b, 0, none⟩)) := by rw [Lib.cell_of_heap hb2]; rfl
  have d1 : w2.cell? ⟨b, 1, none⟩ = some v := by rw [Lib.cell_of_heap hb2]; rfl
  have f1 : w2.frozen? ⟨b, 1, none⟩ = false := Lib.frozen_of_heap hb2 1
  obtain ⟨g, cap, rfl⟩ : ∃ g cap, v' = .slice (some ⟨g, 0, none⟩) (bs.length + 1) cap := by
    rcases hown'.2 with ⟨_, h0⟩ | ⟨g, cap, cur, hv, _⟩
    · omega
    · exact ⟨g, cap, hv⟩
  go_wp2
  go_ret
  refine ⟨rfl, ?_, ?_⟩
  · exact Lib.BuilderAt.put (T := 98) (e := 5) hB hb2 (bs' := bs ++ [.int .u8 c]) (by simpa using hown') (by decide)
  · exact ((hb1.alloc (by have := hb1.size; omega) _).grown hgrow (by have := hb1.size; simp; omega) (fun k hk => (hown.lt k hk).1)).setCell (p := ⟨b, 1, none⟩) hB _

set_option maxHeartbeats 2000000 in
set_option maxRecDepth 100000 in
theorem writeString_any (B b : Nat) (bs : List Value) (s : ByteArray) (w : World) (h : Lib.IsBuilder 98 5 B b bs w) (hlen : bs.length + s.size ≤ 140737488355328) (hBw : B ≤ w.heap.size) :
    Calls Tryz.prog 78 #[.pointer (some ⟨b, 0, none⟩), .string s] w fun e w' => e = .returned (.tuple #[.int .i64 s.size, .nilIface]) ∧ (Lib.BuilderAt 98 5 B b (.pointer (some ⟨b, 0, none⟩)) (bs ++ Lib.strCells s) w' ∧ Below B w w') := by
  obtain ⟨i0, hi, hz0, hz1, hz2⟩ := info_parts infoByte
  go_enter Tryz.func78, Tryz.ntmps78
  go_wp2_with (go_at_call 117; refine (copyCheck_any B b bs _ h).mono ?_)
  rintro e w1 ⟨rfl, h1, hb1⟩
  obtain ⟨hB, v, hbk, hown, hne⟩ := h1
  have c0 : w1.cell? ⟨b, 0, none⟩ = some (.pointer (some ⟨b, 0, none⟩)) := by rw [Lib.cell_of_heap hbk]; rfl
  have c1 : w1.cell? ⟨b, 1, none⟩ = some v := by rw [Lib.cell_of_heap hbk]; rfl
  go_wp2_with (at_builtin; refine wp_append_text rfl _ _ 96 9 rfl B 5 i0 Tryz.underlying96 Tryz.underlying9 hi hz0 hz1 hz2 _ _ _ rfl hown s rfl ?c3 ?c4 ?c5 ?_)
  case c3 => unfold maxLen; omega
  case c4 => omega
  case c5 => have := hb1.size; omega
  intro v' w2 hown' hgrow
  have hlt : b < w1.heap.size := by
    rcases Nat.lt_or_ge b w1.heap.size with h' | h'
    · exact h'
    · simp [Array.getElem?_eq_none h'] at hbk
  have hb2 : w2.heap[b]? = some (.cells #[.pointer (some ⟨b, 0, none⟩), v] 98 (0, 0)) := by
    rw [hgrow.old.block b hlt (fun e => hne e.symm)]
    exact hbk
  have d0 : w2.cell? ⟨b, 0, none⟩ = some (.pointer (some ⟨b, 0, none⟩)) := by rw [Lib.cell_of_heap hb2]; rfl
  have d1 : w2.cell? ⟨b, 1, none⟩ = some v := by rw [Lib.cell_of_heap hb2]; rfl
  have f1 : w2.frozen? ⟨b, 1, none⟩ = false := Lib.frozen_of_heap hb2 1
  obtain ⟨ao, n', cap, rfl⟩ : ∃ ao n' cap, v' = .slice ao n' cap := by
    rcases hown'.2 with ⟨hv, _⟩ | ⟨g, cap, cur, hv, _⟩
    · exact ⟨_, _, _, hv⟩
    · exact ⟨_, _, _, hv⟩
  go_wp2
  go_ret2
  refine ⟨rfl, ?_, ?_⟩
  · exact Lib.BuilderAt.put (T := 98) (e := 5) hB hb2 (bs' := bs ++ Lib.strCells s) (by simpa [Lib.strCells_length] using hown') (by decide)
  · exact (hb1.grown hgrow (by have := hb1.size; omega) (fun k hk => (hown.lt k hk).1)).setCell (p := ⟨b, 1, none⟩) hB _

theorem byteCells_ne {l : List UInt8} (h : l ≠ []) : (Lib.byteCells l).length ≠ 0 := by
  rw [Lib.byteCells_length]; exact fun e => h (List.eq_nil_of_length_eq_zero e)
set_option maxHeartbeats 2000000 in
set_option maxRecDepth 100000 in
/-- What a builder that holds a byte at least gives as its string. -/
theorem string_any (B b : Nat) (l : List UInt8) (w : World) (h : Lib.IsBuilder 98 5 B b (Lib.byteCells l) w) (h0 : l ≠ []) :
    Calls Tryz.prog 79 #[.pointer (some ⟨b, 0, none⟩)] w fun e w' => e = .returned (.string ⟨l.toArray⟩) ∧ Below B w w' := by
  obtain ⟨p, hB, v, hbk, hown, hne⟩ : ∃ p, Lib.BuilderAt 98 5 B b p (Lib.byteCells l) w := h.elim (fun q => ⟨_, q⟩) (fun q => ⟨_, q⟩)
  rcases hown.2 with ⟨_, hz⟩ | ⟨g, cap, cur, rfl, hbg, hg, hnc, hcm, hcs, htake⟩
  · exact absurd hz (byteCells_ne h0)
  rw [Lib.byteCells_length] at hown hnc hbk htake
  have hl0 : l.length ≠ 0 := fun e => h0 (List.eq_nil_of_length_eq_zero e)
  have hg' : w.drew.heap[g]? = some (.cells cur 5 (0, 0)) := hg
  have c1 : w.drew.cell? ⟨b, 1, none⟩ = some (.slice (some ⟨g, 0, none⟩) l.length cap) := by
    rw [Lib.cell_of_heap (show w.drew.heap[b]? = _ from hbk)]; rfl
  have hSD := Lib.run_unsafeSliceData_row (P := Tryz.prog) w.drew #[96] 125 ⟨g, 0, none⟩ l.length cap (by omega)
  have hUS := Lib.run_unsafeString_row (P := Tryz.prog) w.drew 125 3 9 5 Tryz.underlying125 (by kernel_rfl) g cur.size (by unfold World.shape?; rw [hg']) l h0 (by omega) (by unfold maxLen at hcm; omega)
    (fun j x hx => hown.cells (g := g) rfl j (.int .u8 x.toNat) (by simp [Lib.byteCells, hx]))
  go_enter Tryz.func79, Tryz.ntmps79
  go_wp2
  have mixed : Tryz.prog.follows .mixedOrders = true := by kernel_rfl
  go_region_o
  all_goals
    go_wp2
    go_ret
    have hf := Lib.below_freeze (Go.RowKit.Below.drew (Go.RowKit.Below.refl B w)) (p := ⟨g, 0, none⟩) hbg l.length
    exact ⟨rfl, hf.os, hf.tape, hf.output, hf.size, by rw [freeze_draws]; exact Nat.le_succ _, hf.block⟩
end Go.Proofs.YtjabcbagggicaaaGreatDoor
end

section
/-
  Package ident's Digits and the document's own answer's Digits: both return, for every int, its decimal digits, preceded by a minus sign if it is negative. Condition: the library's table of powers of ten reads as it is laid.
-/
namespace Go.Proofs.YtjabcbagggicaaaGreatDoor
open Go.RowKit

def HasTab (w : World) : Prop := Lib.TabBelow Tryz.prog w.heap.size w "internal/strconv.uint64pow10" .u64 Lib.pow10Tab
theorem HasTab.on {w w' : World} (h : HasTab w) (hb : Below w.heap.size w w') : HasTab w' := fun w2 hb2 => h w2 (hb.old.trans (hb2.mono hb.size))

theorem below_growD (w : World) (k : Nat) (os : Array Obj) : Below w.heap.size w (Go.Sort.grow (w.drewN k) os) :=
  have h := Lib.below_grow w.heap.size w (Nat.le_refl _) k os
  ⟨h.os, h.tape, h.output, h.size, (below_drewN (Below.refl w.heap.size w) k).drawn, h.block⟩
def digS (n : Int) : ByteArray := ⟨(Lib.itoa n).toArray⟩

set_option maxHeartbeats 1000000 in
theorem digits_any (n : Int) (h0 : -9223372036854775808 ≤ n) (h1 : n ≤ 9223372036854775807) (w : World) (ht : HasTab w) :
    Calls Tryz.prog 44 #[.int .i64 n] w fun e w' => e = .returned (.string (digS n)) ∧ Below w.heap.size w w' := by
  have H := Lib.hid ht
  clear ht
  go_enter Tryz.func44, Tryz.ntmps44
  go_wp2_with (go_at_call 76; refine (Tryz.strconv_Itoa n h0 h1 _ H.out.here).mono ?_; rintro e w' ⟨rfl, k, os, rfl⟩)
  go_ret
  exact ⟨rfl, below_growD _ _ _⟩

theorem ret_str {a b : ByteArray} (h : a = b) : Ending.returned (.string a) = .returned (.string b) := by rw [h]
def one (x : Int) : ByteArray := ⟨#[UInt8.ofNat x.toNat]⟩
def decS (n : Nat) : ByteArray := ⟨(Lib.decDigits n).toArray⟩
end Go.Proofs.YtjabcbagggicaaaGreatDoor
end

section
/-
  Package ident's Join and the document's own answer's Join: both return, for every slice of strings and every byte, the strings with the byte between adjacent ones. Condition: the result has at most a billion bytes.
-/
namespace Go.Proofs.YtjabcbagggicaaaGreatDoor
open Go.RowKit

theorem joinL_snoc (b : UInt8) (P : List (List UInt8)) (x : List UInt8) : joinL b (P ++ [x]) = if P = [] then x else joinL b P ++ b :: x := by
  induction P with
  | nil => rfl
  | cons y r ih =>
    rw [if_neg (by simp)]
    cases r with
    | nil => rfl
    | cons z r2 =>
      rw [List.cons_append, List.cons_append, joinL, ← List.cons_append, ih, if_neg (by simp), joinL, List.append_assoc]; rfl
theorem joinL_take_le (b : UInt8) (l : List (List UInt8)) : ∀ k, (joinL b (l.take k)).length ≤ (joinL b l).length := by
  intro k
  induction l generalizing k with
  | nil => simp
  | cons y r ih =>
    cases k with
    | zero => simp [joinL]
    | succ k =>
      cases r with
      | nil => simp
      | cons z r2 =>
        cases k with
        | zero => simp [joinL]
        | succ k =>
          have := ih (k + 1)
          rw [List.take_succ_cons] at this ⊢
          rw [List.take_succ_cons, joinL, joinL]
          simp only [List.length_append, List.length_cons]
          omega

/-- A slice value that reads as the list l of strings, below block B. -/
def ReadsT (w : World) (B : Nat) (v : Value) (l : List (List UInt8)) : Prop :=
  ∃ A cap, v = .slice A l.length cap ∧ (0 < l.length → ∃ ad : Addr, A = some ad ∧ ad.block < B ∧ ∀ j (h : j < l.length), w.cell? (ad.add j) = some (.string (mkS l[j])))
theorem addr_block (a : Addr) (n : Nat) : (a.add n).block = a.block := by unfold Addr.add; split <;> rfl
theorem ReadsT.below {w w' : World} {B : Nat} {v : Value} {l : List (List UInt8)} (h : ReadsT w B v l) (hb : Below B w w') : ReadsT w' B v l := by
  obtain ⟨A, cap, e, hc⟩ := h
  refine ⟨A, cap, e, fun h0 => ?_⟩
  obtain ⟨ad, e2, hlt, hcell⟩ := hc h0
  exact ⟨ad, e2, hlt, fun j hj => (hb.cell (by rw [addr_block]; exact hlt)).trans (hcell j hj)⟩
theorem ReadsT.more {w : World} {B B' : Nat} {v : Value} {l : List (List UInt8)} (h : ReadsT w B v l) (hB : B ≤ B') : ReadsT w B' v l := by
  obtain ⟨A, cap, e, hc⟩ := h
  refine ⟨A, cap, e, fun h0 => ?_⟩
  obtain ⟨ad, e2, hlt, hcell⟩ := hc h0
  exact ⟨ad, e2, by omega, hcell⟩
theorem ReadsT.of_own {w : World} {base : Nat} {e : TypeId} {v : Value} {l : List (List UInt8)} (h : w.ownsRow base e 1 v l.length (strV l)) : ReadsT w w.heap.size v l := by
  rcases h.2 with ⟨rfl, h0⟩ | ⟨g, cap, cur, rfl, hg, hh, hn, _⟩
  · exact ⟨none, 0, by rw [h0], fun hpos => by omega⟩
  · refine ⟨some ⟨g, 0, none⟩, cap, rfl, fun hpos => ⟨⟨g, 0, none⟩, rfl, (Array.getElem?_eq_some_iff.1 hh).1, fun j hj => ?_⟩⟩
    exact h.cells (g := g) rfl j _ (by unfold strV; rw [List.getElem?_map, List.getElem?_eq_getElem hj]; rfl)

theorem mkS_append (a b : List UInt8) : mkS a ++ mkS b = mkS (a ++ b) := by
  unfold mkS; apply ByteArray.ext; simp
theorem mkS_size (a : List UInt8) : (mkS a).size = a.length := by unfold mkS; simp [ByteArray.size]
theorem take_snocL (l : List (List UInt8)) (k : Nat) (h : k < l.length) : l.take (k + 1) = l.take k ++ [l[k]] := by
  rw [List.take_succ_eq_append_getElem h]
theorem take_nil_iff (l : List (List UInt8)) (k : Nat) (h : k < l.length) (h0 : 0 < k) : l.take k ≠ [] := by
  intro e; have := congrArg List.length e; rw [List.length_take, List.length_nil] at this; omega

theorem byteCells_one (c : UInt8) : Lib.byteCells [c] = [.int .u8 (c.toNat : Int)] := rfl
theorem strCells_mk (l : List UInt8) : Lib.strCells (mkS l) = Lib.byteCells l := rfl
theorem bc_join (x y : List UInt8) (b : UInt8) : Lib.byteCells (x ++ b :: y) = Lib.byteCells x ++ [.int .u8 (b.toNat : Int)] ++ Lib.strCells (mkS y) := by
  rw [strCells_mk, ← byteCells_one, ← Lib.byteCells_append, ← Lib.byteCells_append, List.append_assoc]; rfl

set_option maxHeartbeats 2000000 in
theorem join_any (v : Value) (l : List (List UInt8)) (b : UInt8) (w : World) (hv : ReadsT w w.heap.size v l) (hl : (joinL b l).length ≤ 1000000000) (hn : l.length ≤ 1000000000) (hne : joinL b l ≠ []) :
    Calls Tryz.prog 46 #[v, .int .u8 b.toNat] w fun e w' => e = .returned (.string (mkS (joinL b l))) ∧ Below w.heap.size w w' := by
  obtain ⟨A, cap, rfl, hcell⟩ := hv
  go_enter Tryz.func46, Tryz.ntmps46
  go_wp2
  go_loopw [10] (fun iv wr => ∃ (k : Nat), iv = .int .i64 k ∧ k ≤ l.length ∧ Lib.IsBuilder 98 5 w.heap.size w.heap.size (Lib.byteCells (joinL b (l.take k))) wr ∧ Below w.heap.size w wr) (fun iv _ => l.length - (intOf iv).toNat)
  case atStart => exact ⟨0, rfl, Nat.zero_le _, Lib.fresh_isBuilder 98 5 w, (Below.refl _ _).alloc (Nat.le_refl _) _⟩
  case round =>
    obtain ⟨k, rfl, hk, hI, hb⟩ := hrel
    have hsz := hb.size
    by_cases hp : k < l.length
    · obtain ⟨ad, rfl, hlt, hc⟩ := hcell (by omega)
      have hck : wr.cell? (ad.add k) = some (.string (mkS l[k])) := (hb.cell (by rw [addr_block]; exact hlt)).trans (hc k hp)
      have hln : (joinL b (l.take (k + 1))).length ≤ 1000000000 := Nat.le_trans (joinL_take_le b l (k + 1)) hl
      have HJ := Lib.hid (joinL_snoc b (l.take k) l[k])
      rw [← take_snocL l k hp] at HJ
      clear hc hcell
      by_cases h0 : k = 0
      · subst h0
        have hx2 : (mkS l[0]).size ≤ 1000000000 := by
          rw [mkS_size]; rw [HJ.out, if_pos List.take_zero] at hln; exact hln
        have hck0 : wr.cell? ad = some (.string (mkS l[0])) := hck
        clear hck
        go_wp2_with (go_at_call 78; refine (writeString_any w.heap.size w.heap.size _ (mkS l[0]) _ hI ?_ hsz).mono ?_)
        · rw [Lib.byteCells_length]; simp [joinL]; omega
        rintro e w1 ⟨rfl, h1, hb1⟩
        go_wp2
        go_roundw
        case rel => exact ⟨0 + 1, by go_num, by omega, by rw [HJ.out, if_pos List.take_zero]; exact Or.inr h1, hb.trans hb1⟩
        case measure => simp [intOf]; omega
      · have h0p : 0 < k := by omega
        have hlen : (joinL b (l.take k)).length + (l[k].length + 1) ≤ 1000000000 := by
          rw [HJ.out, if_neg (take_nil_iff l k hp h0p), List.length_append, List.length_cons] at hln; exact hln
        go_wp2_with (go_at_call 77; refine (writeByte_any w.heap.size w.heap.size _ _ _ hI ?_ hsz).mono ?_)
        · rw [Lib.byteCells_length]; omega
        rintro e w1 ⟨rfl, h1, hb1⟩
        have hsz1 := (hb.trans hb1).size
        go_wp2_with (go_at_call 78; refine (writeString_any w.heap.size w.heap.size _ (mkS l[k]) _ (Or.inr h1) ?_ hsz1).mono ?_)
        · rw [List.length_append, Lib.byteCells_length, mkS_size]; simp; omega
        rintro e w2 ⟨rfl, h2, hb2⟩
        go_wp2
        go_roundw
        case rel => exact ⟨k + 1, by go_num, by omega, by rw [HJ.out, if_neg (take_nil_iff l k hp h0p), bc_join]; exact Or.inr h2, (hb.trans hb1).trans hb2⟩
        case measure => simp [intOf]; omega
    · obtain rfl : k = l.length := by omega
      go_wp2_with (go_at_call 79; refine (string_any w.heap.size w.heap.size _ _ hI (by rw [List.take_length]; exact hne)).mono ?_)
      rintro e w1 ⟨rfl, hb1⟩
      go_wp2
      go_ret
      exact ⟨ret_str rfl, hb.trans hb1⟩
end Go.Proofs.YtjabcbagggicaaaGreatDoor
end

section
/-
  Steps for walking a function's text with the frame as a function of the slot and the call's own blocks as a list: one theorem an operation, no search. No condition of their own.
-/
namespace Go.Proofs.YtjabcbagggicaaaGreatDoor
open Go.RowKit
set_option linter.unusedVariables false
set_option linter.unusedSimpArgs false

/-! ### The blocks that the call has made -/
structure Blk where
  b : Nat
  cs : Array Value
  ty : TypeId
/-- The world at hand against the one at the call's entry: the blocks that the call has made (or borrowed: M) hold this; of what was there nothing else has changed. -/
structure Own (M : List Nat) (W w : World) (L : List Blk) : Prop where
  os : w.os = W.os
  tape : w.tape = W.tape
  output : w.output = W.output
  size : W.heap.size ≤ w.heap.size
  drawn : W.drawn ≤ w.drawn
  kept : ∀ k, k < W.heap.size → k ∉ M → w.heap[k]? = W.heap[k]?
  held : ∀ x ∈ L, w.heap[x.b]? = some (.cells x.cs x.ty)
  base : ∀ x ∈ L, W.heap.size ≤ x.b ∨ x.b ∈ M
  apart : (L.map Blk.b).Nodup
theorem Own.below {W w : World} {L : List Blk} (h : Own [] W w L) : Below W.heap.size W w := ⟨h.os, h.tape, h.output, h.size, h.drawn, fun k hk => h.kept k hk (by simp)⟩
theorem Own.start (M : List Nat) (W : World) : Own M W W [] := ⟨rfl, rfl, rfl, Nat.le_refl _, Nat.le_refl _, fun _ _ _ => rfl, by simp, by simp, by simp⟩
theorem Own.lt {M : List Nat} {W w : World} {L : List Blk} (h : Own M W w L) {x : Blk} (hx : x ∈ L) : x.b < w.heap.size := (Array.getElem?_eq_some_iff.1 (h.held x hx)).1
theorem Own.on {M : List Nat} {W w w' : World} {L : List Blk} (h : Own M W w L) (hb : Below w.heap.size w w') : Own M W w' L :=
  ⟨hb.os.trans h.os, hb.tape.trans h.tape, hb.output.trans h.output, Nat.le_trans h.size hb.size, Nat.le_trans h.drawn hb.drawn, fun k hk hm => (hb.block k (Nat.lt_of_lt_of_le hk h.size)).trans (h.kept k hk hm), fun x hx => (hb.block x.b (h.lt hx)).trans (h.held x hx), h.base, h.apart⟩
theorem Own.drew {M : List Nat} {W w : World} {L : List Blk} (h : Own M W w L) : Own M W { w with drawn := w.drawn + 1 } L := ⟨h.os, h.tape, h.output, h.size, Nat.le_succ_of_le h.drawn, h.kept, h.held, h.base, h.apart⟩
theorem Own.get {M : List Nat} {W w : World} {L : List Blk} (h : Own M W w L) {i : Nat} {x : Blk} (hi : L[i]? = some x) : w.heap[x.b]? = some (.cells x.cs x.ty) := h.held x (List.mem_of_getElem? hi)
theorem Own.alloc {M : List Nat} {W w : World} {L : List Blk} (h : Own M W w L) (cs : Array Value) (T : TypeId) : Own M W (w.alloc (.cells cs T)) (⟨w.heap.size, cs, T⟩ :: L) := by
  refine ⟨h.os, h.tape, h.output, Nat.le_trans h.size (by simp), h.drawn, fun k hk hm => ?_, fun x hx => ?_, fun x hx => ?_, ?_⟩
  · rw [Below.heap_alloc w _ k (Nat.lt_of_lt_of_le hk h.size)]; exact h.kept k hk hm
  · rcases List.mem_cons.1 hx with rfl | hx
    · exact heap_alloc_new w _
    · exact (Below.heap_alloc w _ x.b (h.lt hx)).trans (h.held x hx)
  · rcases List.mem_cons.1 hx with rfl | hx
    · exact .inl h.size
    · exact h.base x hx
  · rw [List.map_cons, List.nodup_cons]
    refine ⟨fun hm => ?_, h.apart⟩
    obtain ⟨y, hy, he⟩ := List.mem_map.1 hm
    have := h.lt hy
    rw [he] at this
    exact absurd this (Nat.lt_irrefl _)
theorem map_set_b (L : List Blk) (i : Nat) (x y : Blk) (hi : L[i]? = some x) (hb : y.b = x.b) : (L.set i y).map Blk.b = L.map Blk.b := by
  rw [List.map_set, hb]
  have : (L.map Blk.b)[i]? = some x.b := by rw [List.getElem?_map, hi]; rfl
  obtain ⟨hlt, he⟩ := List.getElem?_eq_some_iff.1 this
  rw [← he, List.set_getElem_self]
theorem nodup_at {α : Type} {l : List α} (h : l.Nodup) {i j : Nat} {x : α} (hi : l[i]? = some x) (hj : l[j]? = some x) : i = j := by
  obtain ⟨a, ha⟩ := List.getElem?_eq_some_iff.1 hi
  obtain ⟨b, hb⟩ := List.getElem?_eq_some_iff.1 hj
  exact (List.getElem_inj h).1 (ha.trans hb.symm)
theorem Own.put {M : List Nat} {W w : World} {L : List Blk} (h : Own M W w L) {i : Nat} {x : Blk} (hi : L[i]? = some x) (cs : Array Value) : Own M W (w.setRow x.b cs) (L.set i ⟨x.b, cs, x.ty⟩) := by
  have hx := List.mem_of_getElem? hi
  have hm := map_set_b L i x ⟨x.b, cs, x.ty⟩ hi rfl
  have hsz : (w.setRow x.b cs).heap.size = w.heap.size := size_setRow w x.b cs
  refine ⟨h.os, h.tape, h.output, by rw [hsz]; exact h.size, h.drawn, fun k hk hkm => ?_, fun y hy => ?_, fun y hy => ?_, by rw [hm]; exact h.apart⟩
  · rw [setRow_other w x.b k cs (fun e => by
      rcases h.base x hx with h1 | h1
      · omega
      · exact hkm (e ▸ h1))]
    exact h.kept k hk hkm
  · obtain ⟨j, hj⟩ := List.mem_iff_getElem?.1 hy
    rw [List.getElem?_set] at hj
    split at hj
    · rename_i hij
      split at hj
      · obtain rfl := Option.some.inj hj
        exact setRow_heap w x.b x.cs cs x.ty _ (h.held x hx)
      · cases hj
    · rename_i hij
      have hyL := List.mem_of_getElem? hj
      have hne : y.b ≠ x.b := fun e => hij (by
        have h1 : (L.map Blk.b)[i]? = some x.b := by rw [List.getElem?_map, hi]; rfl
        have h2 : (L.map Blk.b)[j]? = some x.b := by rw [List.getElem?_map, hj, ← e]; rfl
        exact nodup_at h.apart h1 h2)
      rw [setRow_other w x.b y.b cs hne]
      exact h.held y hyL
  · have : y.b ∈ (L.set i ⟨x.b, cs, x.ty⟩).map Blk.b := List.mem_map.2 ⟨y, hy, rfl⟩
    rw [hm] at this
    obtain ⟨z, hz, he⟩ := List.mem_map.1 this
    rw [← he]; exact h.base z hz

/-! ### The frame as a function -/
def upd (f : Nat → Value) : Option Tmp → Value → Nat → Value
  | some d, v => fun t => bif Nat.beq t d then v else f t
  | none, _ => f
def Fr (n : Nat) (f : Nat → Value) : Act := { tmps := Array.ofFn (n := n) fun i => f i.val, defers := [] }
def ev (n : Nat) (f : Nat → Value) : Operand → Value
  | .tmp t => bif Nat.blt t n then f t else undef
  | .const v => v
  | .global g => .pointer (some ⟨g, 0, none⟩)
  | .func g => .func (.func g) #[] #[]
theorem blt_t {t n : Nat} (h : t < n) : Nat.blt t n = true := Nat.ble_eq_true_of_le h
theorem blt_f {t n : Nat} (h : ¬ t < n) : Nat.blt t n = false := Bool.eq_false_iff.2 fun e => h (Nat.le_of_ble_eq_true e)
theorem getD_ofFn (n : Nat) (f : Nat → Value) (t : Nat) : (Array.ofFn (n := n) fun i => f i.val).getD t undef = bif Nat.blt t n then f t else undef := by
  rw [Array.getD_eq_getD_getElem?, Array.getElem?_ofFn]
  by_cases h : t < n
  · rw [dif_pos h, blt_t h]; rfl
  · rw [dif_neg h, blt_f h]; rfl
theorem Fr_eval (n : Nat) (f : Nat → Value) : (Fr n f).eval = ev n f := by
  funext x
  cases x with
  | tmp t => exact getD_ofFn n f t
  | _ => rfl
theorem Fr_put (n : Nat) (f : Nat → Value) (d : Option Tmp) (v : Value) : (Fr n f).put d v = Fr n (upd f d v) := by
  cases d with
  | none => rfl
  | some d =>
    show ({ tmps := (Array.ofFn (n := n) fun i => f i.val).setIfInBounds d v, defers := [] } : Act) = { tmps := Array.ofFn (n := n) fun i => upd f (some d) v i.val, defers := [] }
    have key : (Array.ofFn (n := n) fun i => f i.val).setIfInBounds d v = Array.ofFn (n := n) fun i => upd f (some d) v i.val := by
     apply Array.ext_getElem?
     intro i
     rw [Array.getElem?_setIfInBounds, Array.getElem?_ofFn, Array.getElem?_ofFn]
     by_cases h : i < n
     · rw [dif_pos h, dif_pos h]
       by_cases hd : d = i
       · subst hd
         simp [upd, h]
       · have : Nat.beq i d = false := by rw [Bool.eq_false_iff]; intro e; exact hd (Nat.eq_of_beq_eq_true e).symm
         rw [if_neg hd]; simp [upd, this]
     · rw [dif_neg h, dif_neg h]
       by_cases hd : d = i
       · subst hd; simp [h]
       · rw [if_neg hd]
    rw [key]
def asB : Value → Option Bool
  | .bool b => some b
  | _ => none
def yl (ops : Array Oper) (n : Nat) (f : Nat → Value) (j : Nat) : Option Bool :=
  match (ops[j]?).bind (·.dst) with
  | some d => bif Nat.blt d n then asB (f d) else none
  | none => none
theorem Fr_yielded (ops : Array Oper) (n : Nat) (f : Nat → Value) : yielded ops (Fr n f).tmps = yl ops n f := by
  funext j
  unfold yielded yl
  cases h : (ops[j]?).bind (·.dst) with
  | none => rfl
  | some d =>
    show (match (Array.ofFn (n := n) fun i => f i.val)[d]? with | some (.bool b) => some b | _ => none) = _
    rw [Array.getElem?_ofFn]
    by_cases hd : d < n
    · rw [dif_pos hd]
      dsimp only
      rw [blt_t hd]
      cases f d <;> rfl
    · rw [dif_neg hd]
      dsimp only
      rw [blt_f hd]; rfl
def want (ops : Array Oper) (n : Nat) (f : Nat → Value) (o : Oper) : Bool := Region.wanted o (yl ops n f)

/-! ### A run of operations in order -/
section
variable {M : List Nat} {P : Program} {n : Nat} {ops : Array Oper} {W : World} {Q : Exit → Act → World → Prop} {rest : List Oper} {o : Oper} {L : List Blk} {f : Nat → Value}

structure Seg (M : List Nat) (P : Program) (n : Nat) (ops : Array Oper) (W : World) (Q : Exit → Act → World → Prop) (rest : List Oper) (L : List Blk) (f : Nat → Value) : Prop where
  go : ∀ w, Own M W w L → wpList P ops Q rest (Fr n f) w
structure Fin (M : List Nat) (n : Nat) (W : World) (Q : Exit → Act → World → Prop) (e : Exit) (L : List Blk) (f : Nat → Value) : Prop where
  go : ∀ w, Own M W w L → Q e (Fr n f) w
structure Ok (M : List Nat) (P : Program) (n : Nat) (W : World) (Q : Exit → Act → World → Prop) (c : Code) (L : List Blk) (f : Nat → Value) : Prop where
  go : ∀ w, Own M W w L → c.wp P Q (Fr n f) w
/-- The same for a region that draws its order: the operations in the order of the text, in every world in which the blocks are held. -/
structure QSeg (M : List Nat) (P : Program) (n : Nat) (ops : Array Oper) (W : World) (Qe : List Blk → (Nat → Value) → Prop) (rest : List Oper) (L : List Blk) (f : Nat → Value) : Prop where
  go : wpQuiet P ops (fun w => Own M W w L) (fun a => ∃ f', a = Fr n f' ∧ Qe L f') rest (Fr n f)

theorem want_eq (ops : Array Oper) (n : Nat) (f : Nat → Value) (o : Oper) : Region.wanted o (yielded ops (Fr n f).tmps) = want ops n f o := by rw [Fr_yielded]; rfl
theorem s_nil (h : Fin M n W Q .normal L f) : Seg M P n ops W Q [] L f := ⟨h.go⟩
theorem s_skip (hw : want ops n f o = false) (h : Seg M P n ops W Q rest L (upd f o.dst undef)) : Seg M P n ops W Q (o :: rest) L f := ⟨fun w hO => by
  have := h.go w hO
  unfold wpList
  rw [want_eq, hw, if_neg Bool.false_ne_true, Fr_put]
  exact this⟩
theorem s_step (hw : want ops n f o = true) (h : ∀ w, Own M W w L → o.wp P (Fr n f) w (wpList P ops Q rest) Q) : Seg M P n ops W Q (o :: rest) L f := ⟨fun w hO => by
  unfold wpList
  rw [want_eq, hw, if_pos rfl]
  exact .inl (h w hO)⟩
theorem wp_val {K : Act → World → Prop} {w w' : World} (v : Value) (hr : (execOp (ev n f) o).run P w = .ok (.value v) w') (h : K (Fr n (upd f o.dst v)) w') : o.wp P (Fr n f) w K Q := by
  unfold Oper.wp
  rw [Fr_eval, hr]
  show K ((Fr n f).put o.dst v) w'
  rw [Fr_put]; exact h
theorem s_val (v : Value) (hw : want ops n f o = true) (hr : ∀ w, (execOp (ev n f) o).run P w = .ok (.value v) w) (h : Seg M P n ops W Q rest L (upd f o.dst v)) : Seg M P n ops W Q (o :: rest) L f :=
  s_step hw fun w hO => wp_val v (hr w) (h.go w hO)
/-- An operation whose value hangs on the blocks that are held. -/
theorem s_read (v : Value) (hw : want ops n f o = true) (hr : ∀ w, Own M W w L → (execOp (ev n f) o).run P w = .ok (.value v) w) (h : Seg M P n ops W Q rest L (upd f o.dst v)) : Seg M P n ops W Q (o :: rest) L f :=
  s_step hw fun w hO => wp_val v (hr w hO) (h.go w hO)
theorem wp_enter {K : Act → World → Prop} {w : World} {k : FuncId} {args : Array Value} (he : (execOp (ev n f) o).run P w = .ok (.enter k args) w)
    (hc : Calls P k args w fun e w' => ∃ v, e = .returned v ∧ K (Fr n (upd f o.dst v)) w') : o.wp P (Fr n f) w K Q := by
  unfold Oper.wp
  rw [Fr_eval, he]
  show Calls P k args w _
  refine hc.mono fun e w' ⟨v, e1, e2⟩ => ?_
  subst e1
  show K ((Fr n f).put o.dst v) w'
  rw [Fr_put]; exact e2
theorem s_call {k : FuncId} {args : Array Value} (v : Value) (hw : want ops n f o = true) (he : ∀ w, (execOp (ev n f) o).run P w = .ok (.enter k args) w)
    (hc : ∀ w, Own M W w L → Calls P k args w fun e w' => e = .returned v ∧ Below w.heap.size w w') (h : Seg M P n ops W Q rest L (upd f o.dst v)) : Seg M P n ops W Q (o :: rest) L f :=
  s_step hw fun w hO => wp_enter (he w) ((hc w hO).mono fun e w' ⟨e1, e2⟩ => ⟨v, e1, h.go w' (hO.on e2)⟩)
def aggB : TypeDesc → Bool
  | .struct _ | .array _ _ => true
  | _ => false
/-! What a variable reads as, and what a store makes of it. -/
def readAt (P : Program) (ty : TypeId) (cs : Array Value) (off : Nat) : Option Value :=
  match P.underlying ty, P.info? ty with
  | some (.struct _), some i => if off + i.size ≤ cs.size then some (.agg (cs.toList.drop off |>.take i.size).toArray) else none
  | some (.array _ _), some i => if off + i.size ≤ cs.size then some (.agg (cs.toList.drop off |>.take i.size).toArray) else none
  | some _, some _ => cs[off]?
  | _, _ => none
theorem add_off (b o j : Nat) : (⟨b, o, none⟩ : Addr).add j = ⟨b, o + j, none⟩ := by unfold Addr.add; split <;> simp_all
theorem run_agg_at {ty : TypeId} {d : TypeDesc} {i : TypeInfo} {cs : Array Value} {w : World} {b off : Nat} {T : TypeId} (hu : P.underlying ty = some d) (hd : aggB d = true) (hi : P.info? ty = some i)
    (hg : w.heap[b]? = some (.cells cs T)) (hle : off + i.size ≤ cs.size) : (loadVar ty ⟨b, off, none⟩).run P w = .ok (.agg (cs.toList.drop off |>.take i.size).toArray) w := by
  have hlen : ((cs.toList.drop off).take i.size).length = i.size := by simp; omega
  have hl := run_loadCells_list (P := P) w ⟨b, off, none⟩ ((cs.toList.drop off).take i.size) (fun j v hv => by
    rw [add_off, cell_of_row w b (off + j) cs T _ hg]
    have hj : j < i.size := by have := (List.getElem?_eq_some_iff.1 hv).1; rw [hlen] at this; exact this
    rw [List.getElem?_take, if_pos hj, List.getElem?_drop] at hv
    simpa using hv)
  rw [hlen] at hl
  have hagg : (isAgg ty).run P w = .ok true w := by
    unfold isAgg
    rw [Sem.run_bind, run_underlying hu w]
    cases d <;> simp_all [aggB]
  simp [loadVar, Sem.run_bind, hagg, sizeOf, typeInfo, hi, hl]
theorem run_readAt {ty : TypeId} {cs : Array Value} {off : Nat} {v : Value} (h : readAt P ty cs off = some v) {w : World} {b : Nat} {T : TypeId} (hg : w.heap[b]? = some (.cells cs T)) :
    (loadVar ty ⟨b, off, none⟩).run P w = .ok v w := by
  unfold readAt at h
  cases hu : P.underlying ty with
  | none => rw [hu] at h; simp at h
  | some d =>
    cases hi : P.info? ty with
    | none => rw [hu, hi] at h; cases d <;> simp at h
    | some i =>
      rw [hu, hi] at h
      by_cases hd : aggB d = true
      · have h2 : (if off + i.size ≤ cs.size then some (Value.agg (cs.toList.drop off |>.take i.size).toArray) else none) = some v := by
          cases d <;> first | exact h | (simp [aggB] at hd)
        split at h2
        · rename_i hle
          obtain rfl := Option.some.inj h2
          exact run_agg_at hu hd hi hg hle
        · cases h2
      · have h2 : cs[off]? = some v := by cases d <;> first | exact h | (simp [aggB] at hd)
        have hagg : (isAgg ty).run P w = .ok false w := by
          unfold isAgg
          rw [Sem.run_bind, run_underlying hu w]
          cases d <;> simp_all [aggB]
        have hc : w.cell? ⟨b, off, none⟩ = some v := (cell_of_row w b off cs T _ hg).trans h2
        simp [loadVar, Sem.run_bind, hagg, run_load, hc, Result.andThen]
theorem run_load_op {ty : TypeId} {x : Operand} {a : Addr} {v : Value} {w : World} (ho : o.op = .load ty x) (hx : ev n f x = .pointer (some a)) (hl : (loadVar ty a).run P w = .ok v w) : (execOp (ev n f) o).run P w = .ok (.value v) w := by
  unfold execOp
  simp only [ho, hx, Instr.loadAt, Instr.sureAddr, Sem.run_bind, Sem.run_pure, Result.andThen_ok, hl]
/-- A load out of block number i of the list. -/
theorem s_load (i : Nat) (x : Blk) {ty : TypeId} {p : Operand} {off : Nat} (v : Value) (hw : want ops n f o = true) (ho : o.op = .load ty p) (hL : L[i]? = some x) (hp : ev n f p = .pointer (some ⟨x.b, off, none⟩)) (hv : readAt P ty x.cs off = some v)
    (h : Seg M P n ops W Q rest L (upd f o.dst v)) : Seg M P n ops W Q (o :: rest) L f :=
  s_read v hw (fun _ hO => run_load_op ho hp (run_readAt hv (hO.get hL))) h
/-- A load of a cell that was there before the call. -/
theorem s_old {ty : TypeId} {p : Operand} {a : Addr} (v : Value) (hw : want ops n f o = true) (ho : o.op = .load ty p) (hp : ev n f p = .pointer (some a)) (hv : ∀ w, Own M W w L → (loadVar ty a).run P w = .ok v w)
    (h : Seg M P n ops W Q rest L (upd f o.dst v)) : Seg M P n ops W Q (o :: rest) L f :=
  s_read v hw (fun w hO => run_load_op ho hp (hv w hO)) h
/-- New variables. -/
theorem s_alloc {T : TypeId} {i : TypeInfo} (z : Value) (hw : want ops n f o = true) (ho : o.op = .alloc T) (hi : P.info? T = some i) (hz : i.zero = some z)
    (h : ∀ b, Seg M P n ops W Q rest (⟨b, z.cells, T⟩ :: L) (upd f o.dst (.pointer (some ⟨b, 0, none⟩)))) : Seg M P n ops W Q (o :: rest) L f :=
  s_step hw fun w hO => by
    refine wp_val (.pointer (some ⟨w.heap.size, 0, none⟩)) (w' := w.alloc (.cells z.cells T)) ?_ ((h w.heap.size).go _ (hO.alloc _ _))
    unfold execOp
    simp [ho, Instr.alloc, zeroValue, typeInfo, hi, hz, newVar, newRow, Sem.run_bind]
theorem s_box {T : TypeId} {x : Operand} (v : Value) (hw : want ops n f o = true) (ho : o.op = .box T x) (hx : ev n f x = v)
    (h : ∀ b, Seg M P n ops W Q rest (⟨b, v.cells, T⟩ :: L) (upd f o.dst (.pointer (some ⟨b, 0, none⟩)))) : Seg M P n ops W Q (o :: rest) L f :=
  s_step hw fun w hO => by
    refine wp_val (.pointer (some ⟨w.heap.size, 0, none⟩)) (w' := w.alloc (.cells v.cells T)) ?_ ((h w.heap.size).go _ (hO.alloc _ _))
    unfold execOp
    simp [ho, hx, Instr.box, newVar, newRow, Sem.run_bind]
def storeIn (cs : Array Value) (off : Nat) (vs : Array Value) : Array Value := (cs.toList.take off ++ vs.toList ++ cs.toList.drop (off + vs.size)).toArray
/-- A store into block number i of the list. -/
theorem s_store (i : Nat) (x : Blk) {T : TypeId} {t : TypeInfo} {p q : Operand} {off : Nat} (v : Value) (hw : want ops n f o = true) (ho : o.op = .store T p q) (hd : o.dst = none) (hL : L[i]? = some x)
    (hp : ev n f p = .pointer (some ⟨x.b, off, none⟩)) (hq : ev n f q = v) (hi : P.info? T = some t) (hs : v.cells.size = t.size) (hle : off + t.size ≤ x.cs.size) (h1 : ∀ u ∈ v.cells.toList, u.oneCell' = true)
    (h : Seg M P n ops W Q rest (L.set i ⟨x.b, storeIn x.cs off v.cells, x.ty⟩) f) : Seg M P n ops W Q (o :: rest) L f :=
  s_step hw fun w hO => by
    have hst := run_storeCells_at (P := P) x.b off x.ty v.cells.toList 0 x.cs w (hO.get hL) (by simp; omega) h1
    unfold Oper.wp
    rw [Fr_eval]
    have hr : (execOp (ev n f) o).run P w = .ok .skip (w.setRow x.b (storeIn x.cs off v.cells)) := by
      unfold execOp
      simp only [ho, hp, hq, Instr.storeAt, Instr.sureAddr, Sem.run_bind, Sem.run_pure, Result.andThen_ok, storeVar, sizeOf, typeInfo, hi, hs, run_program]
      simp only [ne_eq, not_true_eq_false, if_false]
      have : (storeCells ⟨x.b, off, none⟩ v.cells.toList).run P w = .ok () (w.setRow x.b (storeIn x.cs off v.cells)) := by
        rw [hst]; unfold storeIn; simp
      simp [this]
    rw [hr]
    show wpList P ops Q rest ((Fr n f).put o.dst undef) _
    rw [Fr_put, hd]
    exact h.go _ (hO.put hL _)

/-! ### A region that draws its order, of operations that write nothing -/
theorem q_nil {Qe : List Blk → (Nat → Value) → Prop} (h : Qe L f) : QSeg M P n ops W Qe [] L f := ⟨⟨f, rfl, h⟩⟩
theorem q_skip {Qe : List Blk → (Nat → Value) → Prop} (hw : want ops n f o = false) (h : QSeg M P n ops W Qe rest L (upd f o.dst undef)) : QSeg M P n ops W Qe (o :: rest) L f := by
  refine ⟨?_⟩
  replace h := h.go
  refine BigFrame.wpQuiet_skip (by rw [want_eq]; exact hw) ?_
  rw [Fr_put]; exact h
theorem q_read {Qe : List Blk → (Nat → Value) → Prop} (v : Value) (hw : want ops n f o = true) (hr : ∀ w, Own M W w L → (execOp (ev n f) o).run P w = .ok (.value v) w) (h : QSeg M P n ops W Qe rest L (upd f o.dst v)) : QSeg M P n ops W Qe (o :: rest) L f := by
  refine ⟨?_⟩
  replace h := h.go
  refine BigFrame.wpQuiet_want (by rw [want_eq]; exact hw) fun K hK => ⟨v, fun w hO => ?_, hK _ ?_⟩
  · unfold Oper.quietAt
    rw [Fr_eval, hr w hO]
    exact ⟨rfl, rfl⟩
  · rw [Fr_put]; exact h
theorem q_val {Qe : List Blk → (Nat → Value) → Prop} (v : Value) (hw : want ops n f o = true) (hr : ∀ w, (execOp (ev n f) o).run P w = .ok (.value v) w) (h : QSeg M P n ops W Qe rest L (upd f o.dst v)) : QSeg M P n ops W Qe (o :: rest) L f :=
  q_read v hw (fun w _ => hr w) h
theorem q_call {Qe : List Blk → (Nat → Value) → Prop} {k : FuncId} {args : Array Value} (v : Value) (hw : want ops n f o = true) (he : ∀ w, (execOp (ev n f) o).run P w = .ok (.enter k args) w)
    (hc : ∀ w, Own M W w L → Calls P k args w fun e w' => e = .returned v ∧ Below w.heap.size w w') (h : QSeg M P n ops W Qe rest L (upd f o.dst v)) : QSeg M P n ops W Qe (o :: rest) L f := by
  refine ⟨?_⟩
  replace h := h.go
  refine BigFrame.wpQuiet_want (by rw [want_eq]; exact hw) fun K hK => ⟨v, fun w hO => ?_, hK _ ?_⟩
  · unfold Oper.quietAt
    rw [Fr_eval, he w]
    exact ⟨rfl, (hc w hO).mono fun e w' ⟨e1, e2⟩ => ⟨e1, hO.on e2⟩⟩
  · rw [Fr_put]; exact h
theorem q_load {Qe : List Blk → (Nat → Value) → Prop} (i : Nat) (x : Blk) {ty : TypeId} {p : Operand} {off : Nat} (v : Value) (hw : want ops n f o = true) (ho : o.op = .load ty p) (hL : L[i]? = some x) (hp : ev n f p = .pointer (some ⟨x.b, off, none⟩)) (hv : readAt P ty x.cs off = some v)
    (h : QSeg M P n ops W Qe rest L (upd f o.dst v)) : QSeg M P n ops W Qe (o :: rest) L f :=
  q_read v hw (fun _ hO => run_load_op ho hp (run_readAt hv (hO.get hL))) h
theorem q_old {Qe : List Blk → (Nat → Value) → Prop} {ty : TypeId} {p : Operand} {a : Addr} (v : Value) (hw : want ops n f o = true) (ho : o.op = .load ty p) (hp : ev n f p = .pointer (some a)) (hv : ∀ w, Own M W w L → (loadVar ty a).run P w = .ok v w)
    (h : QSeg M P n ops W Qe rest L (upd f o.dst v)) : QSeg M P n ops W Qe (o :: rest) L f :=
  q_read v hw (fun w hO => run_load_op ho hp (hv w hO)) h

/-! ### Control -/
theorem ok_seq {x y : Code} (h : Ok M P n W (Exit.then (Code.wp P y Q) Q) x L f) : Ok M P n W Q (.seq x y) L f := ⟨fun w hO => wp_seq (h.go w hO)⟩
theorem ok_region {id : Nat} {l : List Oper} (h : Seg M P n l.toArray W Q l L f) : Ok M P n W Q (.region id l.toArray false) L f := ⟨fun w hO => wp_region_lit (h.go w hO)⟩
theorem ok_draw {id : Nat} {l : List Oper} (hm : P.follows .mixedOrders = true) (hB : Region.lexB .any l.toArray = true) (h : QSeg M P n l.toArray W (Fin M n W Q .normal) l L f) : Ok M P n W Q (.region id l.toArray true) L f := ⟨fun w hO =>
  wp_region_quiet (C := fun w => Own M W w L) hm hB hO.drew (by
    have e : l.toArray.toList = l := by simp
    rw [e]
    have key : ∀ (r : List Oper) (a : Act), wpQuiet P l.toArray (fun w => Own M W w L) (fun a => ∃ f', a = Fr n f' ∧ Fin M n W Q .normal L f') r a → wpQuiet P l.toArray (fun w => Own M W w L) (fun a' => ∀ w', Own M W w' L → Q .normal a' w') r a := by
      intro r
      induction r with
      | nil => rintro a ⟨f', rfl, h⟩; exact h.go
      | cons o r ih =>
        intro a h
        unfold wpQuiet at h ⊢
        split
        · rename_i hw; rw [if_pos hw] at h; exact Oper.quiet_mono ih h
        · rename_i hw; rw [if_neg hw] at h; exact ih _ h
    exact key l _ h.go)⟩
theorem ok_true {c : Operand} {x y : Code} (hc : ev n f c = .bool true) (h : Ok M P n W Q x L f) : Ok M P n W Q (.cond c x y) L f := ⟨fun w hO => wp_cond_true (by rw [Fr_eval]; exact hc) (h.go w hO)⟩
theorem ok_false {c : Operand} {x y : Code} (hc : ev n f c = .bool false) (h : Ok M P n W Q y L f) : Ok M P n W Q (.cond c x y) L f := ⟨fun w hO => wp_cond_false (by rw [Fr_eval]; exact hc) (h.go w hO)⟩
theorem ok_block {id : Nat} {c : Code} (h : Ok M P n W (Exit.inBlock id Q) c L f) : Ok M P n W Q (.block id c) L f := ⟨fun w hO => wp_block (h.go w hO)⟩
theorem ok_exit {id : Nat} (h : Fin M n W Q (.exit id) L f) : Ok M P n W Q (.exit id) L f := ⟨fun w hO => wp_exit (h.go w hO)⟩
theorem ok_skip (h : Fin M n W Q .normal L f) : Ok M P n W Q .skip L f := ⟨fun w hO => wp_skip (h.go w hO)⟩
theorem ok_ret (h : Fin M n W Q .ret L f) : Ok M P n W Q .ret L f := ⟨fun w hO => wp_ret (h.go w hO)⟩
theorem fin_seq {y : Code} (h : Ok M P n W Q y L f) : Fin M n W (Exit.then (Code.wp P y Q) Q) .normal L f := ⟨h.go⟩
theorem fin_seq_ret {K : Act → World → Prop} (h : Fin M n W Q .ret L f) : Fin M n W (Exit.then K Q) .ret L f := ⟨h.go⟩
theorem fin_seq_exit {K : Act → World → Prop} {id : Nat} (h : Fin M n W Q (.exit id) L f) : Fin M n W (Exit.then K Q) (.exit id) L f := ⟨h.go⟩
theorem fin_block {id : Nat} (h : Fin M n W Q .normal L f) : Fin M n W (Exit.inBlock id Q) .normal L f := ⟨h.go⟩
theorem fin_block_ret {id : Nat} (h : Fin M n W Q .ret L f) : Fin M n W (Exit.inBlock id Q) .ret L f := ⟨h.go⟩
theorem fin_block_exit {id : Nat} (h : Fin M n W Q .normal L f) : Fin M n W (Exit.inBlock id Q) (.exit id) L f := ⟨fun w hO => by
  show if id = id then _ else _
  rw [if_pos rfl]; exact h.go w hO⟩
theorem fin_block_other {id id' : Nat} (hne : id' ≠ id) (h : Fin M n W Q (.exit id') L f) : Fin M n W (Exit.inBlock id Q) (.exit id') L f := ⟨fun w hO => by
  show if id' = id then _ else _
  rw [if_neg hne]; exact h.go w hO⟩
/-- A loop: what holds at each round's head, of the blocks, the frame and a number that each round lowers. -/
def Round (M : List Nat) (n : Nat) (W : World) (Inv : List Blk → (Nat → Value) → Nat → Prop) (m : Nat) (Q : Exit → Act → World → Prop) : Exit → Act → World → Prop :=
  Exit.then (fun a w => ∃ L f m', m' < m ∧ Inv L f m' ∧ Own M W w L ∧ a = Fr n f) Q
theorem ok_loop {c : Code} (Inv : List Blk → (Nat → Value) → Nat → Prop) (m : Nat) (h0 : Inv L f m) (h : ∀ L f m, Inv L f m → Ok M P n W (Round M n W Inv m Q) c L f) : Ok M P n W Q (.loop c) L f := ⟨fun w hO => by
  intro b k cs
  have run : ∀ (m : Nat) (L : List Blk) (f : Nat → Value) (w : World), Inv L f m → Own M W w L → ∃ e a' w', Q e a' w' ∧ Arrives P (lone (b.at (Fr n f) (.code c :: .inLoop c :: k)) cs w) b k cs e a' w' := by
    intro m
    induction m using Nat.strongRecOn with
    | _ m ih =>
      intro L f w hI hO
      obtain ⟨e, a₁, w₁, hq, harr⟩ := (h L f m hI).go w hO b (.inLoop c :: k) cs
      cases e with
      | normal =>
        obtain ⟨L', f', m', hlt, hI', hO', rfl⟩ := hq
        obtain ⟨e₂, a₂, w₂, hq₂, harr₂⟩ := ih m' hlt L' f' w₁ hI' hO'
        exact ⟨e₂, a₂, w₂, hq₂, .of_steps (Steps.trans harr (.one step_inLoop)) harr₂⟩
      | exit id => exact ⟨_, a₁, w₁, hq, .pass (x := .inLoop c) rfl (fun _ _ => .inl (by simp)) harr⟩
      | goto l => exact ⟨_, a₁, w₁, hq, .pass (x := .inLoop c) rfl (fun _ _ => .inl (by simp)) harr⟩
      | ret => exact ⟨_, a₁, w₁, hq, .pass (x := .inLoop c) rfl (fun _ _ => .inl (by simp)) harr⟩
      | panic ch => exact ⟨_, a₁, w₁, hq, .pass (x := .inLoop c) rfl (fun _ _ => .inl (by simp)) harr⟩
      | outgrown => exact ⟨_, a₁, w₁, hq, .pass (x := .inLoop c) rfl (fun _ _ => .inl (by simp)) harr⟩
  obtain ⟨e, a', w', hq, harr⟩ := run m L f w h0 hO
  exact ⟨e, a', w', hq, .of_steps (.one step_loop) harr⟩⟩
theorem fin_round {Inv : List Blk → (Nat → Value) → Nat → Prop} {m m' : Nat} (hlt : m' < m) (hI : Inv L f m') : Fin M n W (Round M n W Inv m Q) .normal L f := ⟨fun w hO => ⟨L, f, m', hlt, hI, hO, rfl⟩⟩
theorem fin_round_ret {Inv : List Blk → (Nat → Value) → Nat → Prop} {m : Nat} (h : Fin M n W Q .ret L f) : Fin M n W (Round M n W Inv m Q) .ret L f := ⟨h.go⟩
theorem fin_round_exit {Inv : List Blk → (Nat → Value) → Nat → Prop} {m id : Nat} (h : Fin M n W Q (.exit id) L f) : Fin M n W (Round M n W Inv m Q) (.exit id) L f := ⟨h.go⟩
/-- A slot that already holds the value. -/
theorem upd_self {f : Nat → Value} {d : Nat} {v : Value} (h : f d = v) : f = upd f (some d) v := by
  funext t
  show f t = bif Nat.beq t d then v else f t
  by_cases e : t = d
  · subst e
    have : Nat.beq t t = true := Nat.beq_refl t
    rw [this]; exact h
  · have : Nat.beq t d = false := by rw [Bool.eq_false_iff]; intro h2; exact e (Nat.eq_of_beq_eq_true h2)
    rw [this]; rfl

/-! ### In and out -/
theorem calls_okM (M : List Nat) {k : FuncId} {fn : Func} {c : Code} {args : Array Value} {R : Ending → World → Prop} (hf : P.funcs[k]? = some fn) (hb : fn.body = some c) (hn : fn.ntmps = n) (hle : Nat.ble args.size n = true)
    (h : Ok M P n W (bodyPost P fn R) c [] (fun t => args.getD t undef)) : Calls P k args W R := by
  refine calls_of_wp hf hb ?_
  have hle' : args.size ≤ n := Nat.le_of_ble_eq_true hle
  have e : ({ tmps := args ++ Array.replicate (fn.ntmps - args.size) undef, defers := [] } : Act) = Fr n (fun t => args.getD t undef) := by
    unfold Fr
    congr 1
    rw [hn]
    apply Array.ext_getElem?
    intro i
    rw [Array.getElem?_ofFn, Array.getElem?_append, Array.getElem?_replicate]
    by_cases hi : i < args.size
    · rw [if_pos hi, dif_pos (by omega), Array.getElem?_eq_getElem hi]
      simp [Array.getD, hi]
    · rw [if_neg hi]
      by_cases hin : i < n
      · rw [if_pos (by omega), dif_pos hin]
        simp [Array.getD, hi]
      · rw [if_neg (by omega), dif_neg hin]
  rw [e]
  exact h.go W (Own.start _ W)
theorem calls_ok {k : FuncId} {fn : Func} {c : Code} {args : Array Value} {R : Ending → World → Prop} (hf : P.funcs[k]? = some fn) (hb : fn.body = some c) (hn : fn.ntmps = n) (hle : Nat.ble args.size n = true)
    (h : Ok [] P n W (bodyPost P fn R) c [] (fun t => args.getD t undef)) : Calls P k args W R := calls_okM [] hf hb hn hle h
theorem fin_ret {fn : Func} {R : Ending → World → Prop} {t : Tmp} (v : Value) (hres : fn.results = #[.tmp t]) (hv : ev n f (.tmp t) = v) (hR : ∀ w, Own M W w L → R (.returned v) w) : Fin M n W (bodyPost P fn R) .ret L f := ⟨fun w hO => by
  refine bodyPost_ret (v := v) ?_ rfl (hR w hO)
  rw [results_tmp hres]
  have : (Fr n f).tmps.getD t undef = v := (getD_ofFn n f t).trans hv
  rw [this]⟩
def resAt (P : Program) (n : Nat) (f : Nat → Value) (L : List Blk) : ResultVar → Nat → Option Value
  | .tmp t, _ => some (ev n f (.tmp t))
  | .cell p ty, i =>
    match L[i]?, ev n f (.tmp p) with
    | some x, .pointer (some ⟨b, off, none⟩) => bif Nat.beq b x.b then readAt P ty x.cs off else none
    | _, _ => none
theorem fin_cell {fn : Func} {R : Ending → World → Prop} {p : Tmp} {ty : TypeId} (i : Nat) (x : Blk) {off : Nat} (v : Value) (hres : fn.results = #[.cell p ty]) (hL : L[i]? = some x) (hp : ev n f (.tmp p) = .pointer (some ⟨x.b, off, none⟩)) (hv : readAt P ty x.cs off = some v)
    (hR : ∀ w, Own M W w L → R (.returned v) w) : Fin M n W (bodyPost P fn R) .ret L f := ⟨fun w hO => by
  refine bodyPost_ret (v := v) ?_ rfl (hR w hO)
  have e : (Fr n f).tmps.getD p undef = .pointer (some ⟨x.b, off, none⟩) := (getD_ofFn n f p).trans hp
  have hr := run_readAt hv (hO.get hL)
  have e' : (Fr n f).tmps[p]?.getD undef = .pointer (some ⟨x.b, off, none⟩) := by simpa using e
  simp [results, hres, e', asAddr, hr]⟩
theorem fin_ret2 {fn : Func} {R : Ending → World → Prop} {t u : Tmp} (v v' : Value) (hres : fn.results = #[.tmp t, .tmp u]) (hv : ev n f (.tmp t) = v) (hv' : ev n f (.tmp u) = v') (hR : ∀ w, Own M W w L → R (.returned (.tuple #[v, v'])) w) : Fin M n W (bodyPost P fn R) .ret L f := ⟨fun w hO => by
  refine bodyPost_ret (v := .tuple #[v, v']) ?_ rfl (hR w hO)
  rw [results_tmp2 hres]
  have e1 : (Fr n f).tmps.getD t undef = v := (getD_ofFn n f t).trans hv
  have e2 : (Fr n f).tmps.getD u undef = v' := (getD_ofFn n f u).trans hv'
  rw [e1, e2]⟩
theorem fin_cell2 {fn : Func} {R : Ending → World → Prop} {p u : Tmp} {ty : TypeId} (i : Nat) (x : Blk) {off : Nat} (v v' : Value) (hres : fn.results = #[.cell p ty, .tmp u]) (hL : L[i]? = some x) (hp : ev n f (.tmp p) = .pointer (some ⟨x.b, off, none⟩)) (hv : readAt P ty x.cs off = some v) (hv' : ev n f (.tmp u) = v')
    (hR : ∀ w, Own M W w L → R (.returned (.tuple #[v, v'])) w) : Fin M n W (bodyPost P fn R) .ret L f := ⟨fun w hO => by
  refine bodyPost_ret (v := .tuple #[v, v']) ?_ rfl (hR w hO)
  have e : (Fr n f).tmps.getD p undef = .pointer (some ⟨x.b, off, none⟩) := (getD_ofFn n f p).trans hp
  have hr := run_readAt hv (hO.get hL)
  have e' : (Fr n f).tmps[p]?.getD undef = .pointer (some ⟨x.b, off, none⟩) := by simpa using e
  have e2 : (Fr n f).tmps.getD u undef = v' := (getD_ofFn n f u).trans hv'
  have e2' : (Fr n f).tmps[u]?.getD undef = v' := by simpa using e2
  simp [results, hres, e', e2', asAddr, hr]⟩
end
/-! ### Handy forms -/
section
variable {M : List Nat} {P : Program} {n : Nat} {ops : Array Oper} {W : World} {Q : Exit → Act → World → Prop} {rest : List Oper} {o : Oper} {L : List Blk} {f : Nat → Value} {Qe : List Blk → (Nat → Value) → Prop}
theorem s_dec {p : Prop} [Decidable p] (t : Bool) (hw : want ops n f o = true) (hr : ∀ w, (execOp (ev n f) o).run P w = .ok (.value (.bool (decide p))) w) (hp : decide p = t) (h : Seg M P n ops W Q rest L (upd f o.dst (.bool t))) : Seg M P n ops W Q (o :: rest) L f := s_val (.bool t) hw (fun w => hp ▸ hr w) h
theorem q_dec {p : Prop} [Decidable p] (t : Bool) (hw : want ops n f o = true) (hr : ∀ w, (execOp (ev n f) o).run P w = .ok (.value (.bool (decide p))) w) (hp : decide p = t) (h : QSeg M P n ops W Qe rest L (upd f o.dst (.bool t))) : QSeg M P n ops W Qe (o :: rest) L f := q_val (.bool t) hw (fun w => hp ▸ hr w) h
theorem s_ndec {p : Prop} [Decidable p] (t : Bool) (hw : want ops n f o = true) (hr : ∀ w, (execOp (ev n f) o).run P w = .ok (.value (.bool (!decide p))) w) (hp : decide p = t) (h : Seg M P n ops W Q rest L (upd f o.dst (.bool (!t)))) : Seg M P n ops W Q (o :: rest) L f := s_val (.bool (!t)) hw (fun w => hp ▸ hr w) h
theorem s_sum {k : IntKind} (z : Int) (hw : want ops n f o = true) (hr : ∀ w, (execOp (ev n f) o).run P w = .ok (.value (.int k (k.wrap z))) w) (hz : k.wrap z = z) (h : Seg M P n ops W Q rest L (upd f o.dst (.int k z))) : Seg M P n ops W Q (o :: rest) L f := s_val (.int k z) hw (fun w => by rw [hr w, hz]) h
theorem q_sum {k : IntKind} (z : Int) (hw : want ops n f o = true) (hr : ∀ w, (execOp (ev n f) o).run P w = .ok (.value (.int k (k.wrap z))) w) (hz : k.wrap z = z) (h : QSeg M P n ops W Qe rest L (upd f o.dst (.int k z))) : QSeg M P n ops W Qe (o :: rest) L f := q_val (.int k z) hw (fun w => by rw [hr w, hz]) h
theorem s_alloc_at {T : TypeId} (z : Value) (hw : want ops n f o = true) (ho : o.op = .alloc T) (hi : (P.info? T).map (·.zero) = some (some z))
    (h : ∀ b, Seg M P n ops W Q rest (⟨b, z.cells, T⟩ :: L) (upd f o.dst (.pointer (some ⟨b, 0, none⟩)))) : Seg M P n ops W Q (o :: rest) L f := by
  cases hq : P.info? T with
  | none => rw [hq] at hi; cases hi
  | some i => rw [hq] at hi; exact s_alloc z hw ho hq (Option.some.inj hi) h
theorem s_store_at (i : Nat) (x : Blk) {T : TypeId} {p q : Operand} {off : Nat} (v : Value) (hw : want ops n f o = true) (ho : o.op = .store T p q) (hd : o.dst = none) (hL : L[i]? = some x)
    (hp : ev n f p = .pointer (some ⟨x.b, off, none⟩)) (hq : ev n f q = v) (hi : ((P.info? T).map fun t => Nat.beq v.cells.size t.size && Nat.ble (off + t.size) x.cs.size) = some true) (h1 : (v.cells.toList.all fun u => u.oneCell') = true)
    (h : Seg M P n ops W Q rest (L.set i ⟨x.b, storeIn x.cs off v.cells, x.ty⟩) f) : Seg M P n ops W Q (o :: rest) L f := by
  cases hz : P.info? T with
  | none => rw [hz] at hi; cases hi
  | some t =>
    rw [hz] at hi
    have e : (Nat.beq v.cells.size t.size && Nat.ble (off + t.size) x.cs.size) = true := Option.some.inj hi
    rw [Bool.and_eq_true] at e
    exact s_store i x v hw ho hd hL hp hq hz (Nat.eq_of_beq_eq_true e.1) (Nat.le_of_ble_eq_true e.2) (List.all_eq_true.1 h1) h
end
end Go.Proofs.YtjabcbagggicaaaGreatDoor
end

section
/-
  A region that draws its order, whose operations but the last ones write nothing: the first ones in the order of the text, then the last ones, one behind the other. No condition.
-/
namespace Go.Proofs.YtjabcbagggicaaaGreatDoor
open Go.RowKit
set_option linter.unusedVariables false
set_option linter.unusedSimpArgs false

def backB (md : Region.Mode) (l : List Oper) (i : Nat) : Bool :=
  match l[i]? with
  | some o => o.after.all fun e => !(Region.binds md e) || decide (e.on < i)
  | none => false
def waitB (md : Region.Mode) (l : List Oper) (t i : Nat) : Bool :=
  match l[t]? with
  | some o => o.after.any fun e => Region.binds md e && e.on == i
  | none => false
def inB (l : List Oper) (m i : Nat) : Bool :=
  match l[i]? with
  | some o => match o.guard with | some (g, _) => decide (g < m) | none => true
  | none => false
def preB (md : Region.Mode) (l : List Oper) (m : Nat) : Bool :=
  decide (m ≤ l.length) && (List.range l.length).all (fun i => backB md l i) && (List.range m).all (fun i => inB l m i && (decide (l.length ≤ m) || waitB md l m i)) && (List.range l.length).all fun t => decide (t ≤ m) || waitB md l t (t - 1)
section
variable {P : Program} {md : Region.Mode} {l : List Oper} {m : Nat}
structure PreOk (md : Region.Mode) (l : List Oper) (m : Nat) : Prop where
  le : m ≤ l.length
  back : ∀ i o, l[i]? = some o → ∀ e ∈ o.after, Region.binds md e = true → e.on < i
  inn : ∀ i o g b, i < m → l[i]? = some o → o.guard = some (g, b) → g < m
  first : ∀ i o, i < m → l[m]? = some o → ∃ e ∈ o.after, Region.binds md e = true ∧ e.on = i
  chain : ∀ t o, m < t → l[t]? = some o → ∃ e ∈ o.after, Region.binds md e = true ∧ e.on = t - 1
theorem waitB_spec {t i : Nat} {o : Oper} (ho : l[t]? = some o) (h : waitB md l t i = true) : ∃ e ∈ o.after, Region.binds md e = true ∧ e.on = i := by
  unfold waitB at h
  rw [ho] at h
  obtain ⟨e, he, hb⟩ := Array.any_eq_true'.1 h
  simp only [Bool.and_eq_true, beq_iff_eq] at hb
  exact ⟨e, he, hb.1, hb.2⟩
theorem preB_ok (h : preB md l m = true) : PreOk md l m := by
  unfold preB at h
  simp only [Bool.and_eq_true, decide_eq_true_eq, List.all_eq_true, List.mem_range, Bool.or_eq_true] at h
  obtain ⟨⟨⟨h1, h2⟩, h3⟩, h4⟩ := h
  refine ⟨h1, fun i o ho e he hb => ?_, fun i o g b hi ho hg => ?_, fun i o hi ho => ?_, fun t o ht ho => ?_⟩
  · have hi := (List.getElem?_eq_some_iff.1 ho).1
    have := h2 i hi
    unfold backB at this
    rw [ho] at this
    have := Array.all_eq_true_iff_forall_mem.1 this e he
    rw [hb] at this
    simpa using this
  · have := (h3 i hi).1
    unfold inB at this
    rw [ho] at this
    dsimp only at this
    rw [hg] at this
    simpa using this
  · have hm := (List.getElem?_eq_some_iff.1 ho).1
    rcases (h3 i hi).2 with h | h
    · omega
    · exact waitB_spec ho h
  · have hl := (List.getElem?_eq_some_iff.1 ho).1
    rcases h4 t hl with h | h
    · omega
    · exact waitB_spec ho h

/-- What has come up is the first k. -/
def Upto (n k : Nat) (listed : Array Bool) : Prop := listed.size = n ∧ ∀ i, i < n → listed[i]? = some (decide (i < k))
theorem Upto.set {n k : Nat} {listed : Array Bool} (h : Upto n k listed) : Upto n (k + 1) (listed.setIfInBounds k true) := by
  refine ⟨by rw [Array.size_setIfInBounds]; exact h.1, fun i hi => ?_⟩
  rw [Array.getElem?_setIfInBounds]
  by_cases e : k = i
  · subst e
    rw [if_pos rfl, if_pos (by rw [h.1]; exact hi)]
    simp
  · rw [if_neg e, h.2 i hi]
    congr 1
    exact decide_eq_decide.2 (by omega)
theorem at_getD {a : Array Bool} {i : Nat} {b d : Bool} (h : a[i]? = some b) : a.getD i d = b := by rw [Array.getD_eq_getD_getElem?, h]; rfl
theorem ready_upto (hp : PreOk md l m) {k : Nat} {listed : Array Bool} (hk : m ≤ k) (h : Upto l.length k listed) : ∀ i, i ∈ Region.ready md l.toArray listed ↔ (i = k ∧ k < l.length) := by
  intro i
  rw [mem_ready]
  constructor
  · rintro ⟨h1, o, ho, h2⟩
    have ho' : l[i]? = some o := by simpa using ho
    have hi := (List.getElem?_eq_some_iff.1 ho').1
    have hki : ¬ i < k := fun hlt => by
      rw [at_getD (h.2 i hi)] at h1
      simp [hlt] at h1
    refine ⟨?_, by omega⟩
    rcases Nat.lt_or_ge k i with hlt | hge
    · obtain ⟨e, he, hb, hon⟩ := hp.chain i o (by omega) ho'
      have := h2 e he hb
      rw [hon, at_getD (h.2 (i - 1) (by omega))] at this
      simp at this
      omega
    · omega
  · rintro ⟨rfl, hlt⟩
    refine ⟨by rw [at_getD (h.2 i hlt)]; simp, l[i], by simp, fun e he hb => ?_⟩
    have := hp.back i l[i] (List.getElem?_eq_getElem hlt) e he hb
    rw [at_getD (h.2 e.on (by omega))]
    simpa using this
theorem any_tail (hp : PreOk md l m) {Q : Exit → Act → World → Prop} : ∀ (d k fuel : Nat) (listed : Array Bool) (a : Act) (w : World), d = l.length - k → m ≤ k → k ≤ l.length → d ≤ fuel → Upto l.length k listed → wpList P l.toArray Q (l.drop k) a w → wpAny P md l.toArray Q fuel listed a w := by
  intro d
  induction d with
  | zero =>
    intro k fuel listed a w hd hk hkl _ hu h
    have hkn : k = l.length := by omega
    have hr : Region.ready md l.toArray listed = [] := by
      apply List.eq_nil_iff_forall_not_mem.2
      intro i hi
      have := (ready_upto hp hk hu i).1 hi
      omega
    have hq : Q .normal a w := by
      rw [hkn, List.drop_length] at h; exact h
    cases fuel with
    | zero => exact ⟨hr, hq⟩
    | succ f => exact ⟨fun _ => hq, fun i hi => by rw [hr] at hi; cases hi⟩
  | succ d ih =>
    intro k fuel listed a w hd hk hkl hf hu h
    have hlt : k < l.length := by omega
    obtain ⟨f, rfl⟩ : ∃ f, fuel = f + 1 := ⟨fuel - 1, by omega⟩
    refine ⟨fun hr => ?_, fun i hi => ?_⟩
    · have := (ready_upto hp hk hu k).2 ⟨rfl, hlt⟩
      rw [hr] at this; cases this
    · obtain ⟨rfl, _⟩ := (ready_upto hp hk hu i).1 hi
      have ho : l.toArray[i]? = some l[i] := by simp
      rw [List.drop_eq_getElem_cons hlt] at h
      have hw : wpOp P l.toArray Q i (wpList P l.toArray Q (l.drop (i + 1))) a w := by unfold wpOp; simp only [ho]; exact h
      exact wpOp_mono (fun a' w' h' => ih (i + 1) f _ a' w' (by omega) (by omega) (by omega) (by omega) hu.set h') hw

/-- The part that has come up of the first m; of the others nothing has. -/
structure Part (n m : Nat) (listed' listed : Array Bool) : Prop where
  size' : listed'.size = m
  size : listed.size = n
  same : ∀ i, i < m → listed[i]? = listed'[i]?
  rest : ∀ t, m ≤ t → t < n → listed[t]? = some false
theorem Part.get {n m : Nat} {listed' listed : Array Bool} (h : Part n m listed' listed) {i : Nat} (hi : i < m) : ∃ b, listed'[i]? = some b := ⟨_, Array.getElem?_eq_getElem (by rw [h.size']; exact hi)⟩
theorem Part.set {n m i : Nat} {listed' listed : Array Bool} (h : Part n m listed' listed) (hi : i < m) : Part n m (listed'.setIfInBounds i true) (listed.setIfInBounds i true) := by
  refine ⟨by rw [Array.size_setIfInBounds]; exact h.size', by rw [Array.size_setIfInBounds]; exact h.size, fun j hj => ?_, fun t ht htn => ?_⟩
  · rw [Array.getElem?_setIfInBounds, Array.getElem?_setIfInBounds]
    by_cases e : i = j
    · subst e
      rw [if_pos rfl, if_pos rfl, h.size']
      by_cases hin : i < listed.size
      · rw [if_pos hin, if_pos hi]
      · have h1 := h.same i hi
        rw [Array.getElem?_eq_none (by omega)] at h1
        obtain ⟨b, hb⟩ := h.get hi
        rw [← h1] at hb; cases hb
    · rw [if_neg e, if_neg e]; exact h.same j hj
  · rw [Array.getElem?_setIfInBounds, if_neg (by omega)]; exact h.rest t ht htn
theorem least_false (b : Nat → Bool) : ∀ m, (∃ i, i < m ∧ b i = false) → ∃ k, k < m ∧ b k = false ∧ ∀ j, j < k → b j = true := by
  intro m
  induction m with
  | zero => rintro ⟨i, hi, _⟩; omega
  | succ m ih =>
    rintro ⟨i, hi, hb⟩
    by_cases h : ∃ i, i < m ∧ b i = false
    · obtain ⟨k, h1, h2, h3⟩ := ih h
      exact ⟨k, by omega, h2, h3⟩
    · have : i = m := by
        rcases Nat.lt_or_ge i m with h4 | h4
        · exact absurd ⟨i, h4, hb⟩ h
        · omega
      subst this
      refine ⟨i, by omega, hb, fun j hj => ?_⟩
      cases hj2 : b j with
      | true => rfl
      | false => exact absurd ⟨j, hj, hj2⟩ h
theorem take_at {i : Nat} (hi : i < m) : (l.take m).toArray[i]? = l.toArray[i]? := by simp [List.getElem?_take, hi]
theorem part_in (hp : PreOk md l m) {listed' listed : Array Bool} (h : Part l.length m listed' listed) (hun : ∃ i, i < m ∧ listed'.getD i true = false) : ∀ i ∈ Region.ready md l.toArray listed, i < m := by
  intro i hi
  rw [mem_ready] at hi
  obtain ⟨h1, o, ho, h2⟩ := hi
  have ho' : l[i]? = some o := by simpa using ho
  have hil := (List.getElem?_eq_some_iff.1 ho').1
  rcases Nat.lt_trichotomy i m with hlt | rfl | hgt
  · exact hlt
  · obtain ⟨j, hj, hjf⟩ := hun
    obtain ⟨e, he, hb, hon⟩ := hp.first j o hj ho'
    have h3 := h2 e he hb
    obtain ⟨b, hj'⟩ := h.get hj
    rw [hon, Array.getD_eq_getD_getElem?, h.same j hj, hj'] at h3
    rw [Array.getD_eq_getD_getElem?, hj'] at hjf
    simp at h3 hjf
    rw [h3] at hjf; cases hjf
  · obtain ⟨e, he, hb, hon⟩ := hp.chain i o hgt ho'
    have h3 := h2 e he hb
    rw [hon, at_getD (h.rest (i - 1) (by omega) (by omega))] at h3
    cases h3
theorem part_ready (hp : PreOk md l m) {listed' listed : Array Bool} (h : Part l.length m listed' listed) {i : Nat} (hi : i < m) : i ∈ Region.ready md l.toArray listed ↔ i ∈ Region.ready md (l.take m).toArray listed' := by
  rw [mem_ready, mem_ready, take_at hi]
  have e1 : ∀ j d, j < m → listed.getD j d = listed'.getD j d := fun j d hj => by rw [Array.getD_eq_getD_getElem?, Array.getD_eq_getD_getElem?, h.same j hj]
  rw [e1 i true hi]
  constructor
  · rintro ⟨h1, o, ho, h2⟩
    have ho' : l[i]? = some o := by simpa using ho
    exact ⟨h1, o, ho, fun e he hb => by have := hp.back i o ho' e he hb; rw [← e1 _ _ (by omega)]; exact h2 e he hb⟩
  · rintro ⟨h1, o, ho, h2⟩
    have ho' : l[i]? = some o := by simpa using ho
    exact ⟨h1, o, ho, fun e he hb => by have := hp.back i o ho' e he hb; rw [e1 _ _ (by omega)]; exact h2 e he hb⟩
theorem want_take (hp : PreOk md l m) {i : Nat} (hi : i < m) {o : Oper} (ho : l[i]? = some o) (tmps : Array Value) : Region.wanted o (yielded (l.take m).toArray tmps) = Region.wanted o (yielded l.toArray tmps) := by
  unfold Region.wanted
  cases hg : o.guard with
  | none => rfl
  | some x =>
    obtain ⟨g, b⟩ := x
    have := hp.inn i o g b hi ho hg
    dsimp only
    unfold yielded
    rw [take_at this]
theorem qOp_take (hp : PreOk md l m) {C : World → Prop} {i : Nat} (hi : i < m) {K : Act → Prop} {a : Act} (h : qOp P (l.take m).toArray C i K a) : qOp P l.toArray C i K a := by
  unfold qOp at h ⊢
  rw [take_at hi] at h
  cases ho : l.toArray[i]? with
  | none => rw [ho] at h; exact h
  | some o =>
    rw [ho] at h
    have ho' : l[i]? = some o := by simpa using ho
    dsimp only at h ⊢
    rw [want_take hp hi ho'] at h
    exact h
theorem any_pre (hp : PreOk md l m) {C : World → Prop} {Q : Exit → Act → World → Prop} {Qq : Act → Prop} {g : Nat} (H : ∀ (fuel : Nat) (listed : Array Bool) (a : Act) (w : World), g ≤ fuel → Upto l.length m listed → C w → Qq a → wpAny P md l.toArray Q fuel listed a w) :
    ∀ (fuel : Nat) (listed' listed : Array Bool) (a : Act) (w : World), Part l.length m listed' listed → C w → wpAnyQ P md (l.take m).toArray C Qq fuel listed' a → wpAny P md l.toArray Q (fuel + g) listed a w := by
  have full : ∀ (listed' listed : Array Bool), Part l.length m listed' listed → (¬ ∃ i, i < m ∧ listed'.getD i true = false) → Upto l.length m listed := by
    intro listed' listed h hno
    refine ⟨h.size, fun i hi => ?_⟩
    by_cases him : i < m
    · rw [h.same i him, decide_eq_true him]
      obtain ⟨b, e⟩ := h.get him
      rw [e]
      cases b with
      | true => rfl
      | false => exact absurd ⟨i, him, by rw [Array.getD_eq_getD_getElem?, e]; rfl⟩ hno
    · rw [decide_eq_false him]; exact h.rest i (by omega) hi
  have some_ready : ∀ (listed' listed : Array Bool), Part l.length m listed' listed → (∃ i, i < m ∧ listed'.getD i true = false) → ∃ k, k < m ∧ k ∈ Region.ready md l.toArray listed := by
    intro listed' listed h hun
    obtain ⟨k, hk, hf, hall⟩ := least_false (fun i => listed'.getD i true) m hun
    refine ⟨k, hk, (part_ready hp h hk).2 (mem_ready.2 ⟨hf, l[k]'(by have := hp.le; omega), ?_, fun e he hb => ?_⟩)⟩
    · rw [take_at hk]; simp
    · have := hp.back k _ (List.getElem?_eq_getElem (by have := hp.le; omega)) e he hb
      have h2 := hall e.on this
      obtain ⟨b, e2⟩ := h.get (i := e.on) (by omega)
      rw [Array.getD_eq_getD_getElem?, e2] at h2 ⊢
      simpa using h2
  intro fuel
  induction fuel with
  | zero =>
    intro listed' listed a w h hw hq
    have hno : ¬ ∃ i, i < m ∧ listed'.getD i true = false := fun hun => by
      obtain ⟨k, hk, hr⟩ := some_ready _ _ h hun
      have := (part_ready hp h hk).1 hr
      rw [hq.1] at this; cases this
    exact H _ listed a w (by omega) (full _ _ h hno) hw hq.2
  | succ f ih =>
    intro listed' listed a w h hw hq
    by_cases hun : ∃ i, i < m ∧ listed'.getD i true = false
    · rw [show f + 1 + g = (f + g) + 1 from by omega]
      refine ⟨fun hr => ?_, fun i hi => ?_⟩
      · obtain ⟨k, hk, hr2⟩ := some_ready _ _ h hun
        rw [hr] at hr2; cases hr2
      · have him := part_in hp h hun i hi
        have h1 := hq.2 i ((part_ready hp h him).1 hi)
        exact wpOp_of_qOp hw (fun a' w' hw' hk => ih _ _ a' w' (h.set him) hw' hk) (qOp_take hp him h1)
    · have hr : Region.ready md (l.take m).toArray listed' = [] := by
        apply List.eq_nil_iff_forall_not_mem.2
        intro i hi
        have h1 := (mem_ready.1 hi).1
        obtain ⟨_, o, ho, _⟩ := mem_ready.1 hi
        have : i < m := by
          have := (Array.getElem?_eq_some_iff.1 ho).1
          simp at this; omega
        exact hun ⟨i, this, h1⟩
      exact H _ listed a w (by omega) (full _ _ h hun) hw (hq.1 hr)
end

section
variable {M : List Nat} {P : Program} {n : Nat} {W : World} {Q : Exit → Act → World → Prop} {L : List Blk} {f : Nat → Value}
/-- The first m operations write nothing; the others come behind them, one by one. -/
theorem ok_drawt {id : Nat} {l : List Oper} (m : Nat) (hm : P.follows .mixedOrders = true) (hB : Region.lexB .any (l.take m).toArray = true) (hP : preB .any l m = true)
    (h : QSeg M P n (l.take m).toArray W (fun L f => Seg M P n l.toArray W Q (l.drop m) L f) (l.take m) L f) : Ok M P n W Q (.region id l.toArray true) L f := ⟨fun w hO => by
  have hp := preB_ok hP
  simp only [Region.lexB, Bool.and_eq_true] at hB
  have hle : (l.take m).length = m := by rw [List.length_take]; have := hp.le; omega
  have hq := wpAnyQ_lex (md := .any) (C := fun w => Own M W w L) hB.1 (l.take m) 0 (Array.replicate (l.take m).toArray.size false) (Fr n f) (by simp) (by simpa using hB.2) h.go
  refine wp_region_any hm ?_
  have hres := any_pre (P := P) (md := .any) hp (C := fun w => Own M W w L) (Q := Q) (g := l.length - m) (fun fuel listed a w hf hu hw ⟨f', ha, hs⟩ => by
    subst ha
    exact any_tail hp (l.length - m) m fuel listed _ w rfl (Nat.le_refl _) hp.le hf hu (hs.go w hw)) (l.take m).length (Array.replicate (l.take m).toArray.size false) (Array.replicate l.toArray.size false) (Fr n f) { w with drawn := w.drawn + 1 }
    ⟨by simp [hp.le], by simp, fun i hi => by
      have := hp.le
      rw [Array.getElem?_replicate, Array.getElem?_replicate, if_pos (by simp; omega), if_pos (by simp; omega)], fun t _ ht => by rw [Array.getElem?_replicate, if_pos (by simpa using ht)]⟩ hO.drew hq
  rw [hle, show m + (l.length - m) = l.toArray.size from by have := hp.le; simp; omega] at hres
  exact hres⟩
end
/-- The address of an array variable's element. -/
theorem run_ixarr {P : Program} {ρ : Operand → Value} {o : Oper} {t e : TypeId} {x ix : Operand} {b off off' n sz : Nat} {k : IntKind} {j : Int} (ho : o.op = .indexAddr t x ix) (hx : ρ x = .pointer (some ⟨b, off, none⟩)) (hi : ρ ix = .int k j)
    (hu : P.underlying t = some (.array n e)) (hs : (P.info? e).map (·.size) = some sz) (h0 : 0 ≤ j) (h1 : j < n) (hoff : off + j.toNat * sz = off') (w : World) : (execOp ρ o).run P w = .ok (.value (.pointer (some ⟨b, off', none⟩))) w := by
  subst hoff
  cases he : P.info? e with
  | none => rw [he] at hs; cases hs
  | some i =>
    rw [he] at hs
    obtain rfl := Option.some.inj hs
    unfold execOp
    simp [ho, hx, hi, Instr.indexAt, Sem.run_bind, asIntOf, run_underlying hu, Instr.sureAddr, h0, h1, sizeOf, typeInfo, he, add_off]
theorem ret_v {P : Program} {k : FuncId} {args : Array Value} {w : World} {v v' : Value} (h : v = v') (hc : Calls P k args w fun e w' => e = .returned v ∧ Below w.heap.size w w') : Calls P k args w fun e w' => e = .returned v' ∧ Below w.heap.size w w' := by subst h; exact hc
theorem ret_b {P : Program} {k : FuncId} {args : Array Value} {w : World} {a b : Bool} (h : a = b) (hc : Calls P k args w fun e w' => e = .returned (.bool a) ∧ Below w.heap.size w w') : Calls P k args w fun e w' => e = .returned (.bool b) ∧ Below w.heap.size w w' := by subst h; exact hc
end Go.Proofs.YtjabcbagggicaaaGreatDoor
end

section
/-
  A region that draws its order and makes variables beside what it reads: what only reads blocks that were there at its start is taken first; the rest in each order that may come up. No condition.
-/
namespace Go.Proofs.YtjabcbagggicaaaGreatDoor
open Go.RowKit
set_option linter.unusedVariables false
set_option linter.unusedSimpArgs false

theorem Own.sub {M : List Nat} {W w : World} {L0 : List Blk} : ∀ (E : List Blk), Own M W w (E ++ L0) → Own M W w L0
  | [], h => h
  | e :: E, h => Own.sub E ⟨h.os, h.tape, h.output, h.size, h.drawn, h.kept, fun x hx => h.held x (List.mem_cons_of_mem _ hx), fun x hx => h.base x (List.mem_cons_of_mem _ hx), by
      have := h.apart
      rw [List.cons_append, List.map_cons, List.nodup_cons] at this
      exact this.2⟩
theorem Own.swap {M : List Nat} {W w : World} {x y : Blk} {L : List Blk} (h : Own M W w (x :: y :: L)) : Own M W w (y :: x :: L) :=
  ⟨h.os, h.tape, h.output, h.size, h.drawn, h.kept, fun z hz => h.held z (by simp only [List.mem_cons] at hz ⊢; rcases hz with h | h | h <;> simp [h]), fun z hz => h.base z (by simp only [List.mem_cons] at hz ⊢; rcases hz with h | h | h <;> simp [h]), by
    have := h.apart
    simp only [List.map_cons, List.nodup_cons, List.mem_cons, not_or] at this ⊢
    exact ⟨⟨fun e => this.1.1 e.symm, this.2.1⟩, this.1.2, this.2.2⟩⟩
section
variable {M : List Nat} {P : Program} {n : Nat} {ops : Array Oper} {W : World} {Q : Exit → Act → World → Prop} {L0 L : List Blk} {f : Nat → Value} {fuel : Nat} {listed : Array Bool}
def PQ (Q : Exit → Act → World → Prop) : Prop := ∀ c (a : Act) d v w, Q (.panic c) (a.put d v) w → Q (.panic c) a w
theorem pq_seq {K : Act → World → Prop} (h : PQ Q) : PQ (Exit.then K Q) := fun c a d v w h2 => h c a d v w h2
theorem pq_block {id : Nat} (h : PQ Q) : PQ (Exit.inBlock id Q) := fun c a d v w h2 => h c a d v w h2
theorem pq_round {Inv : List Blk → (Nat → Value) → Nat → Prop} {m : Nat} (h : PQ Q) : PQ (Round M n W Inv m Q) := fun c a d v w h2 => h c a d v w h2
theorem pq_body {fn : Func} {R : Ending → World → Prop} : PQ (bodyPost P fn R) := fun c a d v w h2 => by cases d <;> exact h2
structure HSeg (M : List Nat) (P : Program) (n : Nat) (ops : Array Oper) (W : World) (L0 : List Blk) (Q : Exit → Act → World → Prop) (fuel : Nat) (listed : Array Bool) (L : List Blk) (f : Nat → Value) : Prop where
  go : ∀ w, Own M W w L → wpAnyH P .any ops Q (fun w => Own M W w L0) fuel listed (Fr n f) w
structure HStep (M : List Nat) (P : Program) (n : Nat) (ops : Array Oper) (W : World) (L0 : List Blk) (Q : Exit → Act → World → Prop) (fuel : Nat) (listed : Array Bool) (i : Nat) (L : List Blk) (f : Nat → Value) : Prop where
  go : ∀ w, Own M W w L → wpOp P ops Q i (fun a' w' => Own M W w' L0 ∧ wpAnyH P .any ops Q (fun w => Own M W w L0) fuel (listed.setIfInBounds i true) a' w') (Fr n f) w
theorem ok_anyh {id : Nat} {l : List Oper} (hm : P.follows .mixedOrders = true) (h : HSeg M P n l.toArray W L Q l.length (Array.replicate l.length false) L f) : Ok M P n W Q (.region id l.toArray true) L f := ⟨fun w hO => by
  have := wp_region_held (id := id) (S := fun w => Own M W w L) hm (ops := l.toArray) (Q := Q) (a := Fr n f) (w := w) (by simpa using h.go _ hO.drew)
  exact this⟩
theorem h_done (hr : Region.ready .any ops listed = []) (h : Fin M n W Q .normal L f) : HSeg M P n ops W L0 Q fuel listed L f := ⟨fun w hO => wpAnyH_done hr (h.go w hO) fuel⟩
theorem h_take (i : Nat) (E : List Blk) (oi : Oper) (v : Value) (hi : ops[i]? = some oi) (hs : Region.noSelect ops = true) (hf : Region.free .any ops listed i = true) (hr : (Region.ready .any ops listed).contains i = true)
    (hQ : PQ Q) (hw : want ops n f oi = true) (hv : ∀ w, Own M W w L0 → (execOp (ev n f) oi).run P w = .ok (.value v) w)
    (h : HSeg M P n ops W L0 Q fuel (listed.setIfInBounds i true) (E ++ L0) (upd f oi.dst v)) : HSeg M P n ops W L0 Q (fuel + 1) listed (E ++ L0) f := ⟨fun w hO => by
  refine wpAnyH_take hi hs hf hr (fun c a w h => hQ c a _ _ w h) (Or.inl ⟨by rw [want_eq]; exact hw, fun w hw' => by rw [Fr_eval]; exact hv w hw'⟩) (hO.sub E) ?_
  rw [Fr_put]
  exact h.go w hO⟩
theorem h_load (i : Nat) (E : List Blk) (oi : Oper) (k : Nat) (x : Blk) {ty : TypeId} {p : Operand} {off : Nat} (v : Value) (hi : ops[i]? = some oi) (hs : Region.noSelect ops = true) (hf : Region.free .any ops listed i = true) (hr : (Region.ready .any ops listed).contains i = true)
    (hQ : PQ Q) (hw : want ops n f oi = true) (ho : oi.op = .load ty p) (hL : L0[k]? = some x) (hp : ev n f p = .pointer (some ⟨x.b, off, none⟩)) (hv : readAt P ty x.cs off = some v)
    (h : HSeg M P n ops W L0 Q fuel (listed.setIfInBounds i true) (E ++ L0) (upd f oi.dst v)) : HSeg M P n ops W L0 Q (fuel + 1) listed (E ++ L0) f :=
  h_take i E oi v hi hs hf hr hQ hw (fun _ hO => run_load_op ho hp (run_readAt hv (hO.get hL))) h
theorem h_one (i : Nat) (hr : Region.ready .any ops listed = [i]) (h : HStep M P n ops W L0 Q fuel listed i L f) : HSeg M P n ops W L0 Q (fuel + 1) listed L f := ⟨fun w hO =>
  wpAnyH_all hr (by simp) fun j hj => by obtain rfl : j = i := by simpa using hj
                                         exact h.go w hO⟩
theorem h_two (i j : Nat) (hr : Region.ready .any ops listed = [i, j]) (h : HStep M P n ops W L0 Q fuel listed i L f) (h' : HStep M P n ops W L0 Q fuel listed j L f) : HSeg M P n ops W L0 Q (fuel + 1) listed L f := ⟨fun w hO =>
  wpAnyH_all hr (by simp) fun k hk => by
    rcases List.mem_cons.1 hk with rfl | hk
    · exact h.go w hO
    · obtain rfl : k = j := by simpa using hk
      exact h'.go w hO⟩
theorem h_three (i j k : Nat) (hr : Region.ready .any ops listed = [i, j, k]) (h : HStep M P n ops W L0 Q fuel listed i L f) (h' : HStep M P n ops W L0 Q fuel listed j L f) (h'' : HStep M P n ops W L0 Q fuel listed k L f) : HSeg M P n ops W L0 Q (fuel + 1) listed L f := ⟨fun w hO =>
  wpAnyH_all hr (by simp) fun m hm => by
    simp only [List.mem_cons, List.not_mem_nil, or_false] at hm
    rcases hm with rfl | rfl | rfl
    · exact h.go w hO
    · exact h'.go w hO
    · exact h''.go w hO⟩
theorem hs_step {i : Nat} {oi : Oper} (hi : ops[i]? = some oi) (hw : want ops n f oi = true) (h : ∀ w, Own M W w L → oi.wp P (Fr n f) w (fun a' w' => Own M W w' L0 ∧ wpAnyH P .any ops Q (fun w => Own M W w L0) fuel (listed.setIfInBounds i true) a' w') Q) : HStep M P n ops W L0 Q fuel listed i L f := ⟨fun w hO => by
  unfold wpOp
  simp only [hi]
  rw [want_eq, hw, if_pos rfl]
  exact .inl (h w hO)⟩
theorem hs_call {i : Nat} (E : List Blk) (oi : Oper) {k : FuncId} {args : Array Value} (v : Value) (hi : ops[i]? = some oi) (hw : want ops n f oi = true) (he : ∀ w, (execOp (ev n f) oi).run P w = .ok (.enter k args) w)
    (hc : ∀ w, Own M W w (E ++ L0) → Calls P k args w fun e w' => e = .returned v ∧ Below w.heap.size w w') (h : HSeg M P n ops W L0 Q fuel (listed.setIfInBounds i true) (E ++ L0) (upd f oi.dst v)) : HStep M P n ops W L0 Q fuel listed i (E ++ L0) f :=
  hs_step hi hw fun w hO => wp_enter (he w) ((hc w hO).mono fun e w' ⟨e1, e2⟩ => ⟨v, e1, (hO.on e2).sub E, h.go w' (hO.on e2)⟩)
theorem hs_alloc {i : Nat} (E : List Blk) (oi : Oper) {T : TypeId} (z : Value) (hi : ops[i]? = some oi) (hw : want ops n f oi = true) (ho : oi.op = .alloc T) (hz : (P.info? T).map (·.zero) = some (some z))
    (h : ∀ b, HSeg M P n ops W L0 Q fuel (listed.setIfInBounds i true) ((⟨b, z.cells, T⟩ :: E) ++ L0) (upd f oi.dst (.pointer (some ⟨b, 0, none⟩)))) : HStep M P n ops W L0 Q fuel listed i (E ++ L0) f :=
  hs_step hi hw fun w hO => by
    cases hq : P.info? T with
    | none => rw [hq] at hz; cases hz
    | some t =>
      rw [hq] at hz
      have hz' : t.zero = some z := Option.some.inj hz
      have hO' := hO.alloc z.cells T
      refine wp_val (.pointer (some ⟨w.heap.size, 0, none⟩)) (w' := w.alloc (.cells z.cells T)) ?_ ⟨Own.sub (⟨w.heap.size, z.cells, T⟩ :: E) hO', (h w.heap.size).go _ hO'⟩
      unfold execOp
      simp [ho, Instr.alloc, zeroValue, typeInfo, hq, hz', newVar, newRow, Sem.run_bind]
/-- A store into a block that the region has made. -/
theorem hs_store {i : Nat} (E : List Blk) (oi : Oper) (k : Nat) (x : Blk) {T : TypeId} {p q : Operand} {off : Nat} (v : Value) (hi' : ops[i]? = some oi) (hw : want ops n f oi = true) (ho : oi.op = .store T p q) (hd : oi.dst = none) (hL : E[k]? = some x)
    (hp : ev n f p = .pointer (some ⟨x.b, off, none⟩)) (hq : ev n f q = v) (hi : ((P.info? T).map fun t => Nat.beq v.cells.size t.size && Nat.ble (off + t.size) x.cs.size) = some true) (h1 : (v.cells.toList.all fun u => u.oneCell') = true)
    (h : HSeg M P n ops W L0 Q fuel (listed.setIfInBounds i true) (E.set k ⟨x.b, storeIn x.cs off v.cells, x.ty⟩ ++ L0) f) : HStep M P n ops W L0 Q fuel listed i (E ++ L0) f :=
  hs_step hi' hw fun w hO => by
    have hkE := (List.getElem?_eq_some_iff.1 hL).1
    have hL' : (E ++ L0)[k]? = some x := by rw [List.getElem?_append_left hkE]; exact hL
    have hset : (E ++ L0).set k ⟨x.b, storeIn x.cs off v.cells, x.ty⟩ = E.set k ⟨x.b, storeIn x.cs off v.cells, x.ty⟩ ++ L0 := List.set_append_left _ _ hkE
    cases hz : P.info? T with
    | none => rw [hz] at hi; cases hi
    | some t =>
      rw [hz] at hi
      have e : (Nat.beq v.cells.size t.size && Nat.ble (off + t.size) x.cs.size) = true := Option.some.inj hi
      rw [Bool.and_eq_true] at e
      have hs := Nat.eq_of_beq_eq_true e.1
      have hle := Nat.le_of_ble_eq_true e.2
      have hst := run_storeCells_at (P := P) x.b off x.ty v.cells.toList 0 x.cs w (hO.get hL') (by simp; omega) (List.all_eq_true.1 h1)
      have hO' := hO.put hL' (storeIn x.cs off v.cells)
      rw [hset] at hO'
      unfold Oper.wp
      rw [Fr_eval]
      have hr : (execOp (ev n f) oi).run P w = .ok .skip (w.setRow x.b (storeIn x.cs off v.cells)) := by
        unfold execOp
        simp only [ho, hp, hq, Instr.storeAt, Instr.sureAddr, Sem.run_bind, Sem.run_pure, Result.andThen_ok, storeVar, sizeOf, typeInfo, hz, hs, run_program]
        simp only [ne_eq, not_true_eq_false, if_false]
        have : (storeCells ⟨x.b, off, none⟩ v.cells.toList).run P w = .ok () (w.setRow x.b (storeIn x.cs off v.cells)) := by
          rw [hst]; unfold storeIn; simp
        simp [this]
      rw [hr]
      show Own M W _ L0 ∧ wpAnyH P .any ops Q (fun w => Own M W w L0) fuel (listed.setIfInBounds i true) ((Fr n f).put oi.dst undef) _
      rw [Fr_put, hd]
      exact ⟨Own.sub _ hO', h.go _ hO'⟩
theorem fin_swap {e : Exit} {x y : Blk} (h : Fin M n W Q e (x :: y :: L) f) : Fin M n W Q e (y :: x :: L) f := ⟨fun w hO => h.go w hO.swap⟩
end
end Go.Proofs.YtjabcbagggicaaaGreatDoor
end

section
/-
  Slices that the call has made: what they hold, append, an element's address and value. No condition of their own but the bounds that each theorem names.
-/
namespace Go.Proofs.YtjabcbagggicaaaGreatDoor
open Go.RowKit
set_option linter.unusedVariables false
set_option linter.unusedSimpArgs false

/-- The slice value v has n elements of type T (sz cells each), the cells xs; it is nil, or it lies at the head of the one block of ob. -/
def Sl (T : TypeId) (sz : Nat) (v : Value) (n : Nat) (xs : List Value) (ob : List Blk) : Prop :=
  xs.length = n * sz ∧ ((v = .slice none 0 0 ∧ n = 0 ∧ ob = []) ∨
    ∃ g cap cur, v = .slice (some ⟨g, 0, none⟩) n cap ∧ ob = [⟨g, cur, T⟩] ∧ n ≤ cap ∧ cap ≤ maxLen ∧ cur.size = cap * sz ∧ cur.toList.take (n * sz) = xs)
theorem Sl.nil (T : TypeId) (sz : Nat) : Sl T sz (.slice none 0 0) 0 [] [] := ⟨by simp, .inl ⟨rfl, rfl, rfl⟩⟩
/-- The list of blocks in another order, or with some left out. -/
theorem Own.take {M : List Nat} {W w : World} {L L' : List Blk} (h : Own M W w L) (hs : ∀ x ∈ L', x ∈ L) (hn : (L'.map Blk.b).Nodup) : Own M W w L' :=
  ⟨h.os, h.tape, h.output, h.size, h.drawn, h.kept, fun x hx => h.held x (hs x hx), fun x hx => h.base x (hs x hx), hn⟩
theorem Own.move {M : List Nat} {W w : World} {E ob L0 : List Blk} {x : Blk} (h : Own M W w (x :: (E ++ ob ++ L0))) : Own M W w (E ++ [x] ++ L0) := by
  refine h.take (fun y hy => ?_) ?_
  · simp only [List.mem_append, List.mem_cons, List.not_mem_nil, or_false] at hy ⊢
    rcases hy with (hy | hy) | hy
    · exact .inr (.inl (.inl hy))
    · exact .inl hy
    · exact .inr (.inr hy)
  · have h1 := h.apart
    have h2 : ((x :: (E ++ L0)).map Blk.b).Nodup := by
      refine h1.sublist (List.Sublist.map _ (List.Sublist.cons_cons _ ?_))
      rw [List.append_assoc]
      exact List.Sublist.append (List.Sublist.refl E) (List.sublist_append_right ob L0)
    have hp : (E ++ [x] ++ L0).Perm (x :: (E ++ L0)) := by
      rw [List.append_assoc]; exact List.perm_middle
    exact (hp.map Blk.b).nodup_iff.2 h2
theorem drew_own {M : List Nat} {W w : World} {L : List Blk} (h : Own M W w L) : Own M W w.drew L := h.drew
section
variable {M : List Nat} {P : Program} {W w : World} {E ob L0 : List Blk}
/-- append, precisely: in place, or in a new block in the old one's stead. -/
theorem own_append {t ty T : TypeId} {i : TypeInfo} {z : Value} {sz : Nat} (ht : P.underlying t = some (.slice T)) (hi : P.info? T = some i) (hz : i.zero = some z) (hsz : i.size = sz) (hzs : z.cells.size = sz)
    {v : Value} {n : Nat} {xs : List Value} (hv : Sl T sz v n xs ob) (hO : Own M W w (E ++ ob ++ L0))
    {a : Addr} {m c : Nat} {news : List Value} (hl : news.length = m * sz) (hnews : ∀ j u, news[j]? = some u → w.cell? (a.add j) = some u) (h1 : ∀ u ∈ news, u.oneCell' = true)
    (h63 : n + m ≤ maxLen) (hbytes : (n + m) * i.bytes ≤ 140737488355328) :
    ∃ v' w' ob', (Builtin.append_ #[t, t] ty #[v, .slice (some a) m c]).run P w = .ok v' w' ∧ Sl T sz v' (n + m) (xs ++ news) ob' ∧ Own M W w' (E ++ ob' ++ L0) := by
  subst hsz
  have hsmall : n + m ≤ 9223372036854775807 := by simp only [maxLen] at h63; omega
  have hlen : (xs ++ news).length = (n + m) * i.size := by rw [List.length_append, hv.1, hl, Nat.add_mul]
  rcases hv.2 with ⟨rfl, rfl, rfl⟩ | ⟨g, cap, cur, rfl, rfl, hnc, hcm, hcs, htake⟩
  · have hx : xs = [] := List.eq_nil_of_length_eq_zero (by simpa using hv.1)
    subst hx
    by_cases hm : m = 0
    · subst hm
      have hn : news = [] := List.eq_nil_of_length_eq_zero (by simpa using hl)
      subst hn
      refine ⟨.slice none 0 0, w, [], ?_, Sl.nil T i.size, hO⟩
      simp [Builtin.append_, run_underlying ht, sizeOf, typeInfo, hi, Builtin.lenOf, Builtin.firstCells, loadCells, loadCellsFrom]
    · have hr := run_append_nil (P := P) w t ty T i z ht hi hz a m c news hl hnews (by omega) (by omega) (by have hb := hbytes; simp only [Nat.zero_add] at hb; omega)
      have hge := grownCap_ge w m 0 T
      have hcm := grownCap_le_maxLen w m 0 T (by simpa using h63)
      refine ⟨_, _, [⟨w.heap.size, news.toArray ++ Builtin.zeroCells z.cells (grownCap w m 0 T - m), T⟩], hr, ⟨by simpa using hlen, .inr ⟨w.heap.size, _, _, by simp, rfl, by simpa using hge, hcm, ?_, ?_⟩⟩, ?_⟩
      · simp only [Array.size_append, List.size_toArray, size_zeroCells, hzs, hl, ← Nat.add_mul]
        congr 1
        omega
      · simp only [Array.toList_append, Nat.zero_add, List.nil_append]
        rw [← hl]
        exact List.take_left
      · have := (drew_own hO).alloc (news.toArray ++ Builtin.zeroCells z.cells (grownCap w m 0 T - m)) T
        exact Own.move (ob := []) this
  · by_cases hroom : n + m ≤ cap
    · have hfit : n * i.size + news.length ≤ cur.size := by rw [hl, hcs, ← Nat.add_mul]; exact Nat.mul_le_mul_right _ hroom
      have hk : (E ++ [Blk.mk g cur T] ++ L0)[E.length]? = some ⟨g, cur, T⟩ := by simp
      have hg := hO.get hk
      have hr := run_append_room (P := P) w t ty T i ht hi g n cap cur hg a m c news hl hnews h1 hroom hfit
      refine ⟨_, _, [⟨g, (cur.toList.take (n * i.size) ++ news ++ cur.toList.drop (n * i.size + news.length)).toArray, T⟩], hr, ⟨hlen, .inr ⟨g, cap, _, rfl, rfl, hroom, hcm, ?_, ?_⟩⟩, ?_⟩
      · simp only [List.size_toArray, List.length_append, List.length_take, List.length_drop, Array.length_toList]
        omega
      · rw [htake, ← hlen]
        exact List.take_left
      · have := hO.put hk (cur.toList.take (n * i.size) ++ news ++ cur.toList.drop (n * i.size + news.length)).toArray
        have e : (E ++ [Blk.mk g cur T] ++ L0).set E.length ⟨g, (cur.toList.take (n * i.size) ++ news ++ cur.toList.drop (n * i.size + news.length)).toArray, T⟩ = E ++ [⟨g, (cur.toList.take (n * i.size) ++ news ++ cur.toList.drop (n * i.size + news.length)).toArray, T⟩] ++ L0 := by simp
        rw [e] at this; exact this
    · have hk : (E ++ [Blk.mk g cur T] ++ L0)[E.length]? = some ⟨g, cur, T⟩ := by simp
      have hg := hO.get hk
      have holds : ∀ j u, xs[j]? = some u → w.cell? ((⟨g, 0, none⟩ : Addr).add j) = some u := fun j u hj => by
        rw [add_off, cell_of_row w g (0 + j) cur T _ hg]
        rw [← htake, List.getElem?_take] at hj
        split at hj
        · simpa using hj
        · cases hj
      have hr := run_append_grow (P := P) w t ty T i z ht hi hz ⟨g, 0, none⟩ n cap xs hv.1 holds a m c news hl hnews (by omega) (by omega) (growslice_fits (by omega) hbytes)
      have hge := grownCap_ge w (n + m) cap T
      have hcm := grownCap_le_maxLen w (n + m) cap T h63
      refine ⟨_, _, [⟨w.heap.size, xs.toArray ++ news.toArray ++ Builtin.zeroCells z.cells (grownCap w (n + m) cap T - (n + m)), T⟩], hr, ⟨hlen, .inr ⟨w.heap.size, _, _, rfl, rfl, hge, hcm, ?_, ?_⟩⟩, ?_⟩
      · simp only [Array.size_append, List.size_toArray, size_zeroCells, hzs, hv.1, hl, ← Nat.add_mul]
        congr 1
        omega
      · simp only [Array.toList_append, List.append_assoc]
        rw [← List.append_assoc, ← hlen]
        exact List.take_left
      · exact Own.move ((drew_own hO).alloc (xs.toArray ++ news.toArray ++ Builtin.zeroCells z.cells (grownCap w (n + m) cap T - (n + m))) T)
end
section
variable {M : List Nat} {P : Program} {n0 : Nat} {ops : Array Oper} {W : World} {Q : Exit → Act → World → Prop} {rest : List Oper} {o : Oper} {E ob L0 : List Blk} {f : Nat → Value}
/-- The operation append(s, x..): s a slice of the call's own. -/
theorem s_append {t T : TypeId} {s x : Operand} {i : TypeInfo} {z : Value} {sz : Nat} (hw : want ops n0 f o = true) (ho : o.op = .call { callee := .builtin .append, args := #[s, x], argTypes := #[t, t] })
    (ht : P.underlying t = some (.slice T)) (hi : P.info? T = some i) (hz : i.zero = some z) (hsz : i.size = sz) (hzs : z.cells.size = sz)
    {v : Value} {n : Nat} {xs : List Value} (hs : ev n0 f s = v) (hv : Sl T sz v n xs ob) {a : Addr} {m c : Nat} {news : List Value} (hx : ev n0 f x = .slice (some a) m c)
    (hl : news.length = m * sz) (hnews : ∀ w, Own M W w (E ++ ob ++ L0) → ∀ j u, news[j]? = some u → w.cell? (a.add j) = some u) (h1 : ∀ u ∈ news, u.oneCell' = true)
    (h63 : n + m ≤ maxLen) (hbytes : (n + m) * i.bytes ≤ 140737488355328)
    (h : ∀ v' ob', Sl T sz v' (n + m) (xs ++ news) ob' → Seg M P n0 ops W Q rest (E ++ ob' ++ L0) (upd f o.dst v')) : Seg M P n0 ops W Q (o :: rest) (E ++ ob ++ L0) f :=
  s_step hw fun w hO => by
    obtain ⟨v', w', ob', hr, h2, h3⟩ := own_append (P := P) (ty := o.type) (c := c) ht hi hz hsz hzs hv hO hl (hnews w hO) h1 h63 hbytes
    refine wp_val v' (w' := w') ?_ ((h v' ob' h2).go w' h3)
    unfold execOp
    simp only [ho, resolve, invoke, builtin, Sem.run_bind, Sem.run_pure, Result.andThen_ok, List.map_toArray, List.map_cons, List.map_nil, hs, hx, hr]
/-- A slice literal: a new block. -/
theorem s_lit {L : List Blk} {t : TypeId} {len : Nat} {parts : Array (Nat × Operand)} (T : TypeId) (cs : Array Value) (hw : want ops n0 f o = true) (ho : o.op = .buildSlice t len parts)
    (hr : ∀ w, (execOp (ev n0 f) o).run P w = .ok (.value (.slice (some ⟨w.heap.size, 0, none⟩) len len)) (w.alloc (.cells cs T)))
    (h : ∀ b, Seg M P n0 ops W Q rest (⟨b, cs, T⟩ :: L) (upd f o.dst (.slice (some ⟨b, 0, none⟩) len len))) : Seg M P n0 ops W Q (o :: rest) L f :=
  s_step hw fun w hO => wp_val _ (hr w) ((h w.heap.size).go _ (hO.alloc _ _))
/-- The address of a slice's element. -/
theorem run_ixsl {ρ : Operand → Value} {t e : TypeId} {x ix : Operand} {b off off' n c sz : Nat} {k : IntKind} {j : Int} (ho : o.op = .indexAddr t x ix) (hx : ρ x = .slice (some ⟨b, off, none⟩) n c) (hi : ρ ix = .int k j)
    (hu : P.underlying t = some (.slice e)) (hs : (P.info? e).map (·.size) = some sz) (h0 : 0 ≤ j) (h1 : j < n) (hoff : off + j.toNat * sz = off') (w : World) : (execOp ρ o).run P w = .ok (.value (.pointer (some ⟨b, off', none⟩))) w := by
  subst hoff
  cases he : P.info? e with
  | none => rw [he] at hs; cases hs
  | some i =>
    rw [he] at hs
    obtain rfl := Option.some.inj hs
    unfold execOp
    simp [ho, hx, hi, Instr.indexAt, Sem.run_bind, asIntOf, run_underlying hu, Instr.sureAddr, h0, h1, sizeOf, typeInfo, he, add_off]
end
/-! ### Elements -/
section
variable {α : Type} {g : α → List Value} {sz : Nat}
theorem flat_len (hg : ∀ x, (g x).length = sz) (l : List α) : (l.flatMap g).length = l.length * sz := by
  induction l with
  | nil => simp
  | cons x l ih => rw [List.flatMap_cons, List.length_append, hg, ih, List.length_cons, Nat.succ_mul, Nat.add_comm]
theorem flat_at (hg : ∀ x, (g x).length = sz) (l : List α) : ∀ k (h : k < l.length), ((l.flatMap g).drop (k * sz)).take sz = g l[k] := by
  induction l with
  | nil => intro k h; simp at h
  | cons x l ih =>
    intro k h
    rw [List.flatMap_cons]
    cases k with
    | zero =>
      have := hg x
      rw [Nat.zero_mul, List.drop_zero, ← this, List.take_left]; rfl
    | succ k =>
      rw [Nat.succ_mul, Nat.add_comm, ← List.drop_drop]
      have hd : (g x ++ l.flatMap g).drop sz = l.flatMap g := by rw [← hg x]; exact List.drop_left
      rw [hd]
      exact ih k (by simpa using h)
end
end Go.Proofs.YtjabcbagggicaaaGreatDoor
end

section
/-
  Slices that came in (or that a caller owns), read element by element; loops: the frame at a round's head. No condition of their own but what each theorem names.
-/
namespace Go.Proofs.YtjabcbagggicaaaGreatDoor
open Go.RowKit
set_option linter.unusedVariables false
set_option linter.unusedSimpArgs false

/-! ### A frame whose slots are known in part -/
def upds (f : Nat → Value) : List (Nat × Value) → Nat → Value
  | [] => f
  | p :: r => upd (upds f r) (some p.1) p.2
def Agrees (f : Nat → Value) : List (Nat × Value) → Prop
  | [] => True
  | p :: r => f p.1 = p.2 ∧ Agrees f r
theorem upds_self {f : Nat → Value} : ∀ (l : List (Nat × Value)), Agrees f l → f = upds f l
  | [], _ => rfl
  | p :: r, h => by
    have e := upds_self r h.2
    have h1 : upds f r p.1 = p.2 := by rw [← e]; exact h.1
    show f = upd (upds f r) (some p.1) p.2
    rw [← upd_self h1]; exact e

/-! ### Reading -/
/-- The slice v reads as the list l, each element as sz cells by g, out of a block below B. -/
def Reads {α : Type} (g : α → List Value) (w : World) (B : Nat) (A : Option Addr) (l : List α) : Prop :=
  0 < l.length → ∃ b off, A = some ⟨b, off, none⟩ ∧ b < B ∧ ∀ k u, (l.flatMap g)[k]? = some u → w.cell? ⟨b, off + k, none⟩ = some u
theorem Reads.on {α : Type} {g : α → List Value} {w w' : World} {B B' : Nat} {A : Option Addr} {l : List α} (h : Reads g w B A l) (hb : Below B w w') (hB : B ≤ B') : Reads g w' B' A l := fun h0 => by
  obtain ⟨b, off, e, hlt, hc⟩ := h h0
  exact ⟨b, off, e, by omega, fun k u hk => (hb.cell (p := ⟨b, off + k, none⟩) hlt).trans (hc k u hk)⟩
/-- What a caller owns, as its callee reads it. -/
theorem Sl.reads {α : Type} {g : α → List Value} {T sz n : Nat} {A : Option Addr} {cap : Nat} {l : List α} {ob : List Blk} {M : List Nat} {W w : World} {L : List Blk} (h : Sl T sz (.slice A n cap) n (l.flatMap g) ob) (hn : l.length = n) (hO : Own M W w L) (hs : ∀ x ∈ ob, x ∈ L) :
    Reads g w w.heap.size A l := fun h0 => by
  rcases h.2 with ⟨_, h2, _⟩ | ⟨b, c, cur, e, rfl, h3, h4, h5, h6⟩
  · omega
  · obtain ⟨rfl, _, rfl⟩ : A = some ⟨b, 0, none⟩ ∧ True ∧ cap = c := by
      simp only [Value.slice.injEq] at e; exact ⟨e.1, trivial, e.2.2⟩
    have hb := hs ⟨b, cur, T⟩ (by simp)
    refine ⟨b, 0, rfl, hO.lt hb, fun k u hk => ?_⟩
    rw [cell_of_row w b (0 + k) cur T _ (hO.held _ hb)]
    rw [← h6, List.getElem?_take] at hk
    split at hk
    · simpa using hk
    · cases hk
section
variable {P : Program}
/-- A variable whose cells are known. -/
theorem old_load {ty : TypeId} {w : World} {b o : Nat} (cs : List Value) (v : Value) (h : ∀ k u, cs[k]? = some u → w.cell? ⟨b, o + k, none⟩ = some u) (hr : readAt P ty cs.toArray 0 = some v) : (loadVar ty ⟨b, o, none⟩).run P w = .ok v w := by
  unfold readAt at hr
  cases hu : P.underlying ty with
  | none => rw [hu] at hr; simp at hr
  | some d =>
    cases hi : P.info? ty with
    | none => rw [hu, hi] at hr; cases d <;> simp at hr
    | some i =>
      rw [hu, hi] at hr
      by_cases hd : aggB d = true
      · have h2 : (if 0 + i.size ≤ cs.toArray.size then some (Value.agg (cs.toArray.toList.drop 0 |>.take i.size).toArray) else none) = some v := by
          cases d <;> first | exact hr | (simp [aggB] at hd)
        split at h2
        · rename_i hle
          obtain rfl := Option.some.inj h2
          have hlen : (cs.take i.size).length = i.size := by simp at hle ⊢; omega
          have hl := run_loadCells_list (P := P) w ⟨b, o, none⟩ (cs.take i.size) (fun j u hj => by
            rw [add_off]
            rw [List.getElem?_take] at hj
            split at hj
            · exact h j u hj
            · cases hj)
          rw [hlen] at hl
          have hagg : (isAgg ty).run P w = .ok true w := by
            unfold isAgg
            rw [Sem.run_bind, run_underlying hu w]
            cases d <;> simp_all [aggB]
          simp [loadVar, Sem.run_bind, hagg, sizeOf, typeInfo, hi, hl]
        · cases h2
      · have h2 : cs.toArray[0]? = some v := by cases d <;> first | exact hr | (simp [aggB] at hd)
        have hagg : (isAgg ty).run P w = .ok false w := by
          unfold isAgg
          rw [Sem.run_bind, run_underlying hu w]
          cases d <;> simp_all [aggB]
        have hc : w.cell? ⟨b, o, none⟩ = some v := by simpa using h 0 v (by simpa using h2)
        simp [loadVar, Sem.run_bind, hagg, run_load, hc, Result.andThen]
/-- An element, or a part of it from its cell number fo on. -/
theorem elem_load {α : Type} {g : α → List Value} {sz : Nat} (hg : ∀ x, (g x).length = sz) {ty : TypeId} {w : World} {b off o : Nat} {l : List α} (hc : ∀ k u, (l.flatMap g)[k]? = some u → w.cell? ⟨b, off + k, none⟩ = some u) (k fo : Nat) (hk : k < l.length) (ho : o = off + k * sz + fo) (v : Value)
    (hr : readAt P ty ((g l[k]).drop fo).toArray 0 = some v) : (loadVar ty ⟨b, o, none⟩).run P w = .ok v w := by
  subst ho
  refine old_load ((g l[k]).drop fo) v (fun j u hj => ?_) hr
  have e : ((l.flatMap g)[k * sz + (fo + j)]?) = some u := by
    rw [List.getElem?_drop] at hj
    have := flat_at hg l k hk
    rw [← this, List.getElem?_take] at hj
    split at hj
    · rw [List.getElem?_drop] at hj; exact hj
    · cases hj
  have := hc _ u e
  rw [show off + (k * sz + (fo + j)) = off + k * sz + fo + j from by omega] at this
  exact this
/-- The address of an element of a slice that came in. -/
theorem run_ixA {ρ : Operand → Value} {o : Oper} {t e : TypeId} {x ix : Operand} {A : Option Addr} {b off off' n c sz : Nat} {k : IntKind} {j : Int} (ho : o.op = .indexAddr t x ix) (hx : ρ x = .slice A n c) (hA : A = some ⟨b, off, none⟩) (hi : ρ ix = .int k j)
    (hu : P.underlying t = some (.slice e)) (hs : (P.info? e).map (·.size) = some sz) (h0 : 0 ≤ j) (h1 : j < n) (hoff : off + j.toNat * sz = off') (w : World) : (execOp ρ o).run P w = .ok (.value (.pointer (some ⟨b, off', none⟩))) w := by
  subst hA
  exact run_ixsl ho hx hi hu hs h0 h1 hoff w
end
end Go.Proofs.YtjabcbagggicaaaGreatDoor
end

section
/-
  A region that draws its order and makes memory, more freely: any list of blocks that holds the ones at its start which nobody writes; append, slice literals and calls that hand back new memory; and the list of blocks in another form. No condition of their own.
-/
namespace Go.Proofs.YtjabcbagggicaaaGreatDoor
open Go.RowKit
set_option linter.unusedVariables false
set_option linter.unusedSimpArgs false
section
variable {M : List Nat} {P : Program} {n : Nat} {ops : Array Oper} {W : World} {Q : Exit → Act → World → Prop} {L0 L : List Blk} {f : Nat → Value} {fuel : Nat} {listed : Array Bool} {rest : List Oper} {o : Oper}
theorem s_cast {L' : List Blk} (e : L = L') (h : Seg M P n ops W Q rest L' f) : Seg M P n ops W Q rest L f := by subst e; exact h
theorem ok_cast {L' : List Blk} {c : Code} (e : L = L') (h : Ok M P n W Q c L' f) : Ok M P n W Q c L f := by subst e; exact h
theorem fin_cast {L' : List Blk} {x : Exit} (e : L = L') (h : Fin M n W Q x L' f) : Fin M n W Q x L f := by subst e; exact h
theorem s_take {L' : List Blk} (hs : ∀ w, Own M W w L → Own M W w L') (h : Seg M P n ops W Q rest L' f) : Seg M P n ops W Q rest L f := ⟨fun w hO => h.go w (hs w hO)⟩
theorem fin_take {L' : List Blk} {x : Exit} (hs : ∀ w, Own M W w L → Own M W w L') (h : Fin M n W Q x L' f) : Fin M n W Q x L f := ⟨fun w hO => h.go w (hs w hO)⟩
theorem h_cast {L' : List Blk} (e : L = L') (h : HSeg M P n ops W L0 Q fuel listed L' f) : HSeg M P n ops W L0 Q fuel listed L f := by subst e; exact h
/-- The start: L0, of the blocks at hand those that nobody in the region writes. -/
theorem ok_anyhL {id : Nat} {l : List Oper} (L0 : List Blk) (hm : P.follows .mixedOrders = true) (hsub : ∀ w, Own M W w L → Own M W w L0) (h : HSeg M P n l.toArray W L0 Q l.length (Array.replicate l.length false) L f) : Ok M P n W Q (.region id l.toArray true) L f := ⟨fun w hO =>
  wp_region_held (id := id) (S := fun w => Own M W w L0) hm (ops := l.toArray) (Q := Q) (a := Fr n f) (w := w) (by simpa using h.go _ hO.drew)⟩
theorem hl_take (i : Nat) (oi : Oper) (v : Value) (hi : ops[i]? = some oi) (hs : Region.noSelect ops = true) (hf : Region.free .any ops listed i = true) (hr : (Region.ready .any ops listed).contains i = true)
    (hQ : PQ Q) (hsub : ∀ w, Own M W w L → Own M W w L0) (hw : want ops n f oi = true) (hv : ∀ w, Own M W w L0 → (execOp (ev n f) oi).run P w = .ok (.value v) w)
    (h : HSeg M P n ops W L0 Q fuel (listed.setIfInBounds i true) L (upd f oi.dst v)) : HSeg M P n ops W L0 Q (fuel + 1) listed L f := ⟨fun w hO => by
  refine wpAnyH_take hi hs hf hr (fun c a w h => hQ c a _ _ w h) (Or.inl ⟨by rw [want_eq]; exact hw, fun w hw' => by rw [Fr_eval]; exact hv w hw'⟩) (hsub w hO) ?_
  rw [Fr_put]
  exact h.go w hO⟩
theorem hl_load (i : Nat) (oi : Oper) (k : Nat) (x : Blk) {ty : TypeId} {p : Operand} {off : Nat} (v : Value) (hi : ops[i]? = some oi) (hs : Region.noSelect ops = true) (hf : Region.free .any ops listed i = true) (hr : (Region.ready .any ops listed).contains i = true)
    (hQ : PQ Q) (hsub : ∀ w, Own M W w L → Own M W w L0) (hw : want ops n f oi = true) (ho : oi.op = .load ty p) (hL : L0[k]? = some x) (hp : ev n f p = .pointer (some ⟨x.b, off, none⟩)) (hv : readAt P ty x.cs off = some v)
    (h : HSeg M P n ops W L0 Q fuel (listed.setIfInBounds i true) L (upd f oi.dst v)) : HSeg M P n ops W L0 Q (fuel + 1) listed L f :=
  hl_take i oi v hi hs hf hr hQ hsub hw (fun _ hO => run_load_op ho hp (run_readAt hv (hO.get hL))) h
theorem hl_old (i : Nat) (oi : Oper) {ty : TypeId} {p : Operand} {a : Addr} (v : Value) (hi : ops[i]? = some oi) (hs : Region.noSelect ops = true) (hf : Region.free .any ops listed i = true) (hr : (Region.ready .any ops listed).contains i = true)
    (hQ : PQ Q) (hsub : ∀ w, Own M W w L → Own M W w L0) (hw : want ops n f oi = true) (ho : oi.op = .load ty p) (hp : ev n f p = .pointer (some a)) (hv : ∀ w, Own M W w L0 → (loadVar ty a).run P w = .ok v w)
    (h : HSeg M P n ops W L0 Q fuel (listed.setIfInBounds i true) L (upd f oi.dst v)) : HSeg M P n ops W L0 Q (fuel + 1) listed L f :=
  hl_take i oi v hi hs hf hr hQ hsub hw (fun w hO => run_load_op ho hp (hv w hO)) h
/-- A call that hands back something in new memory, or that writes into what it was lent. -/
theorem hl_callx {i : Nat} (oi : Oper) {k : FuncId} {args : Array Value} (R : Value → List Blk → Prop) (hi : ops[i]? = some oi) (hw : want ops n f oi = true) (he : ∀ w, (execOp (ev n f) oi).run P w = .ok (.enter k args) w)
    (hc : ∀ w, Own M W w L → Calls P k args w fun e w' => ∃ v L', e = .returned v ∧ R v L' ∧ Own M W w' L') (hsub : ∀ v L', R v L' → ∀ w, Own M W w L' → Own M W w L0)
    (h : ∀ v L', R v L' → HSeg M P n ops W L0 Q fuel (listed.setIfInBounds i true) L' (upd f oi.dst v)) : HStep M P n ops W L0 Q fuel listed i L f :=
  hs_step hi hw fun w hO => wp_enter (he w) ((hc w hO).mono fun e w' ⟨v, L', e1, e2, e3⟩ => ⟨v, e1, hsub v L' e2 w' e3, (h v L' e2).go w' e3⟩)
theorem hl_append {i0 : Nat} {E ob R : List Blk} (oi : Oper) {t T : TypeId} {s x : Operand} {i : TypeInfo} {z : Value} {sz : Nat} (hi0 : ops[i0]? = some oi) (hw : want ops n f oi = true) (ho : oi.op = .call { callee := .builtin .append, args := #[s, x], argTypes := #[t, t] })
    (ht : P.underlying t = some (.slice T)) (hi : P.info? T = some i) (hz : i.zero = some z) (hsz : i.size = sz) (hzs : z.cells.size = sz)
    {v : Value} {m0 : Nat} {xs : List Value} (hs : ev n f s = v) (hv : Sl T sz v m0 xs ob) {a : Addr} {m c : Nat} {news : List Value} (hx : ev n f x = .slice (some a) m c)
    (hl : news.length = m * sz) (hnews : ∀ w, Own M W w (E ++ ob ++ R) → ∀ j u, news[j]? = some u → w.cell? (a.add j) = some u) (h1 : ∀ u ∈ news, u.oneCell' = true)
    (h63 : m0 + m ≤ maxLen) (hbytes : (m0 + m) * i.bytes ≤ 140737488355328) (hsub : ∀ ob' w, Own M W w (E ++ ob' ++ R) → Own M W w L0)
    (h : ∀ v' ob', Sl T sz v' (m0 + m) (xs ++ news) ob' → HSeg M P n ops W L0 Q fuel (listed.setIfInBounds i0 true) (E ++ ob' ++ R) (upd f oi.dst v')) : HStep M P n ops W L0 Q fuel listed i0 (E ++ ob ++ R) f :=
  hs_step hi0 hw fun w hO => by
    obtain ⟨v', w', ob', hr, h2, h3⟩ := own_append (P := P) (ty := oi.type) (c := c) ht hi hz hsz hzs hv hO hl (hnews w hO) h1 h63 hbytes
    refine wp_val v' (w' := w') ?_ ⟨hsub ob' w' h3, (h v' ob' h2).go w' h3⟩
    unfold execOp
    simp only [ho, resolve, invoke, builtin, Sem.run_bind, Sem.run_pure, Result.andThen_ok, List.map_toArray, List.map_cons, List.map_nil, hs, hx, hr]
theorem hl_lit {i0 : Nat} (oi : Oper) {t : TypeId} {len : Nat} {parts : Array (Nat × Operand)} (T : TypeId) (cs : Array Value) (hi0 : ops[i0]? = some oi) (hw : want ops n f oi = true) (ho : oi.op = .buildSlice t len parts) (hsub : ∀ w, Own M W w L → Own M W w L0)
    (hr : ∀ w, (execOp (ev n f) oi).run P w = .ok (.value (.slice (some ⟨w.heap.size, 0, none⟩) len len)) (w.alloc (.cells cs T)))
    (h : ∀ b, HSeg M P n ops W L0 Q fuel (listed.setIfInBounds i0 true) (⟨b, cs, T⟩ :: L) (upd f oi.dst (.slice (some ⟨b, 0, none⟩) len len))) : HStep M P n ops W L0 Q fuel listed i0 L f :=
  hs_step hi0 hw fun w hO => by
    have hO' := hO.alloc cs T
    refine wp_val _ (hr w) ⟨?_, (h w.heap.size).go _ hO'⟩
    exact hsub _ (Own.sub [⟨w.heap.size, cs, T⟩] hO')
/-- A caller's list of blocks behind a call that has taken over ob and left ob'. -/
theorem Own.join {ob ob' R : List Blk} {w w' : World} (h : Own M W w (ob ++ R)) (hc : Own (ob.map Blk.b) w w' ob') : Own M W w' (ob' ++ R) := by
  have hap := h.apart
  rw [List.map_append, List.nodup_append] at hap
  have notob : ∀ x ∈ R, x.b ∉ ob.map Blk.b := fun x hx hm => hap.2.2 x.b hm x.b (List.mem_map.2 ⟨x, hx, rfl⟩) rfl
  have ltR : ∀ x ∈ R, x.b < w.heap.size := fun x hx => h.lt (List.mem_append_right ob hx)
  have newob : ∀ x ∈ ob', x.b ∉ R.map Blk.b := fun x hx hm => by
    obtain ⟨y, hy, e⟩ := List.mem_map.1 hm
    rcases hc.base x hx with h1 | h1
    · have := ltR y hy; omega
    · exact notob y hy (e ▸ h1)
  refine ⟨hc.os.trans h.os, hc.tape.trans h.tape, hc.output.trans h.output, Nat.le_trans h.size hc.size, Nat.le_trans h.drawn hc.drawn, fun k hk hm => ?_, fun x hx => ?_, fun x hx => ?_, ?_⟩
  · rw [hc.kept k (Nat.lt_of_lt_of_le hk h.size) (fun hmem => by
      obtain ⟨y, hy, e⟩ := List.mem_map.1 hmem
      rcases h.base y (List.mem_append_left R hy) with h1 | h1
      · omega
      · exact hm (e ▸ h1))]
    exact h.kept k hk hm
  · rcases List.mem_append.1 hx with hx | hx
    · exact hc.held x hx
    · rw [hc.kept x.b (ltR x hx) (notob x hx)]
      exact h.held x (List.mem_append_right ob hx)
  · rcases List.mem_append.1 hx with hx | hx
    · rcases hc.base x hx with h1 | h1
      · exact .inl (Nat.le_trans h.size h1)
      · obtain ⟨y, hy, e⟩ := List.mem_map.1 h1
        rw [← e]; exact h.base y (List.mem_append_left R hy)
    · exact h.base x (List.mem_append_right ob hx)
  · rw [List.map_append, List.nodup_append]
    refine ⟨hc.apart, hap.2.1, fun a ha b hb e => ?_⟩
    obtain ⟨x, hx, rfl⟩ := List.mem_map.1 ha
    exact newob x hx (e ▸ hb)
/-- The same for a call that has taken nothing over. -/
theorem Own.joinN {ob' R : List Blk} {w w' : World} (h : Own M W w R) (hc : Own [] w w' ob') : Own M W w' (ob' ++ R) := Own.join (ob := []) h hc
end
section
variable {P : Program} {n : Nat} {W : World} {f : Nat → Value} {Q : Exit → Act → World → Prop} {M : List Nat} {ops : Array Oper} {rest : List Oper} {o : Oper} {L : List Blk}
/-- In, with blocks that the caller lends. -/
theorem calls_okL {k : FuncId} {fn : Func} {c : Code} {args : Array Value} {R : Ending → World → Prop} (hO : Own M W W L) (hf : P.funcs[k]? = some fn) (hb : fn.body = some c) (hn : fn.ntmps = n) (hle : Nat.ble args.size n = true)
    (h : Ok M P n W (bodyPost P fn R) c L (fun t => args.getD t undef)) : Calls P k args W R := by
  have h2 : Ok M P n W (bodyPost P fn R) c [] (fun t => args.getD t undef) → Calls P k args W R := calls_okM M hf hb hn hle
  refine calls_of_wp hf hb ?_
  have hle' : args.size ≤ n := Nat.le_of_ble_eq_true hle
  have e : ({ tmps := args ++ Array.replicate (fn.ntmps - args.size) undef, defers := [] } : Act) = Fr n (fun t => args.getD t undef) := by
    unfold Fr
    congr 1
    rw [hn]
    apply Array.ext_getElem?
    intro i
    rw [Array.getElem?_ofFn, Array.getElem?_append, Array.getElem?_replicate]
    by_cases hi : i < args.size
    · rw [if_pos hi, dif_pos (by omega), Array.getElem?_eq_getElem hi]
      simp [Array.getD, hi]
    · rw [if_neg hi]
      by_cases hin : i < n
      · rw [if_pos (by omega), dif_pos hin]
        simp [Array.getD, hi]
      · rw [if_neg (by omega), dif_neg hin]
  rw [e]
  exact h.go W hO
theorem Sl.block {T sz m : Nat} {A : Option Addr} {cap : Nat} {xs : List Value} {ob : List Blk} (h : Sl T sz (.slice A m cap) m xs ob) (h0 : 0 < m) : ∃ g cur, A = some ⟨g, 0, none⟩ ∧ ob = [⟨g, cur, T⟩] ∧ m ≤ cap ∧ cap ≤ maxLen ∧ cur.size = cap * sz ∧ cur.toList.take (m * sz) = xs := by
  rcases h.2 with ⟨_, h2, _⟩ | ⟨g, c, cur, e, e2, h3, h4, h5, h6⟩
  · omega
  · simp only [Value.slice.injEq] at e
    obtain ⟨rfl, _, rfl⟩ := e
    exact ⟨g, cur, rfl, e2, h3, h4, h5, h6⟩
/-- A part of an element, out of the slice's block. -/
theorem read_part {α : Type} {g : α → List Value} {sz : Nat} (hg : ∀ x, (g x).length = sz) {ty : TypeId} {cur : Array Value} {l : List α} (ht : cur.toList.take (l.length * sz) = l.flatMap g) (k fo : Nat) (hk : k < l.length) (hfo : fo ≤ sz) (v : Value)
    (hr : readAt P ty ((g l[k]).drop fo).toArray 0 = some v) : readAt P ty cur (k * sz + fo) = some v := by
  have hcur : l.length * sz ≤ cur.size := by
    have := congrArg List.length ht
    rw [List.length_take, flat_len hg] at this
    simp at this; omega
  have hks : k * sz + sz ≤ l.length * sz := by rw [← Nat.succ_mul]; exact Nat.mul_le_mul_right _ hk
  have hat : ∀ j u, ((g l[k]).drop fo)[j]? = some u → cur.toList[k * sz + fo + j]? = some u := fun j u hj => by
    rw [List.getElem?_drop] at hj
    have h1 : fo + j < sz := by
      have := (List.getElem?_eq_some_iff.1 hj).1
      rw [hg] at this; exact this
    have h2 : (l.flatMap g)[k * sz + (fo + j)]? = some u := by
      have := flat_at hg l k hk
      rw [← this, List.getElem?_take, if_pos h1, List.getElem?_drop] at hj
      exact hj
    rw [← ht, List.getElem?_take, if_pos (by omega)] at h2
    rw [show k * sz + fo + j = k * sz + (fo + j) from by omega]; exact h2
  unfold readAt at hr ⊢
  cases hu : P.underlying ty with
  | none => rw [hu] at hr; simp at hr
  | some d =>
    cases hi : P.info? ty with
    | none => rw [hu, hi] at hr; cases d <;> simp at hr
    | some i =>
      rw [hu, hi] at hr
      by_cases hd : aggB d = true
      · have h2 : (if 0 + i.size ≤ ((g l[k]).drop fo).toArray.size then some (Value.agg (((g l[k]).drop fo).toArray.toList.drop 0 |>.take i.size).toArray) else none) = some v := by
          cases d <;> first | exact hr | (simp [aggB] at hd)
        have h3 : (if (k * sz + fo) + i.size ≤ cur.size then some (Value.agg (cur.toList.drop (k * sz + fo) |>.take i.size).toArray) else none) = some v := by
          split at h2
          · rename_i hle
            simp only [List.size_toArray, List.length_drop, hg] at hle
            rw [if_pos (by omega), ← h2]
            congr 2
            congr 1
            apply List.ext_getElem?
            intro j
            rw [List.getElem?_take, List.getElem?_take]
            split
            · rename_i hj
              rw [List.getElem?_drop]
              simp only [List.drop_zero]
              have : ∃ u, ((g l[k]).drop fo)[j]? = some u := ⟨_, List.getElem?_eq_getElem (by rw [List.length_drop, hg]; omega)⟩
              obtain ⟨u, hu⟩ := this
              rw [hat j u hu, hu]
            · rfl
          · cases h2
        cases d <;> first | exact h3 | (simp [aggB] at hd)
      · have h2 : ((g l[k]).drop fo).toArray[0]? = some v := by cases d <;> first | exact hr | (simp [aggB] at hd)
        have h3 : cur[k * sz + fo]? = some v := by
          have := hat 0 v (by simpa using h2)
          simpa using this
        cases d <;> first | exact h3 | (simp [aggB] at hd)
end
section
variable {P : Program} {n : Nat} {W : World} {f : Nat → Value} {Q : Exit → Act → World → Prop} {M : List Nat} {ops : Array Oper} {rest : List Oper} {o : Oper} {L : List Blk}
theorem s_storeS (i : Nat) (x : Blk) {T : TypeId} {p q : Operand} {off : Nat} (v : Value) (sz : Nat) (hw : want ops n f o = true) (ho : o.op = .store T p q) (hd : o.dst = none) (hL : L[i]? = some x)
    (hp : ev n f p = .pointer (some ⟨x.b, off, none⟩)) (hq : ev n f q = v) (hz : (P.info? T).map (·.size) = some sz) (hs : v.cells.size = sz) (hle : off + sz ≤ x.cs.size) (h1 : (v.cells.toList.all fun u => u.oneCell') = true)
    (h : Seg M P n ops W Q rest (L.set i ⟨x.b, storeIn x.cs off v.cells, x.ty⟩) f) : Seg M P n ops W Q (o :: rest) L f := by
  cases ht : P.info? T with
  | none => rw [ht] at hz; cases hz
  | some t =>
    rw [ht] at hz
    have e : t.size = sz := Option.some.inj hz
    exact s_store i x v hw ho hd hL hp hq ht (by rw [hs, e]) (by rw [e]; exact hle) (List.all_eq_true.1 h1) h
theorem store_elem {α : Type} {g : α → List Value} {sz : Nat} (hg : ∀ x, (g x).length = sz) {cur : Array Value} {l : List α} (ht : cur.toList.take (l.length * sz) = l.flatMap g) (k fo : Nat) (hk : k < l.length) (vs : Array Value) (y : α) (hfit : fo + vs.size ≤ sz)
    (hy : g y = (g l[k]).take fo ++ vs.toList ++ (g l[k]).drop (fo + vs.size)) : (storeIn cur (k * sz + fo) vs).toList.take (l.length * sz) = (l.set k y).flatMap g ∧ (storeIn cur (k * sz + fo) vs).size = cur.size := by
  obtain ⟨R, hR⟩ : ∃ R, cur.toList = l.flatMap g ++ R := ⟨cur.toList.drop (l.length * sz), by rw [← ht]; exact (List.take_append_drop _ _).symm⟩
  have hsplit : l.flatMap g = (l.take k).flatMap g ++ (g l[k] ++ (l.drop (k + 1)).flatMap g) := by
    rw [← List.flatMap_cons, ← List.drop_eq_getElem_cons hk, ← List.flatMap_append, List.take_append_drop]
  obtain ⟨A, hA⟩ : ∃ A, (l.take k).flatMap g = A := ⟨_, rfl⟩
  obtain ⟨B, hB⟩ : ∃ B, (l.drop (k + 1)).flatMap g = B := ⟨_, rfl⟩
  obtain ⟨G, hG⟩ : ∃ G, g l[k] = G := ⟨_, rfl⟩
  have lA : A.length = k * sz := by rw [← hA, flat_len hg, List.length_take, Nat.min_eq_left (by omega)]
  have lG : G.length = sz := by rw [← hG]; exact hg _
  have lB : B.length = (l.length - (k + 1)) * sz := by rw [← hB, flat_len hg, List.length_drop]
  have tot : k * sz + sz + (l.length - (k + 1)) * sz = l.length * sz := by
    rw [← Nat.succ_mul, ← Nat.add_mul]; congr 1; omega
  rw [hA, hB, hG] at hsplit
  rw [hG] at hy
  have hset : (l.set k y).flatMap g = A ++ (g y ++ B) := by
    rw [List.set_eq_take_append_cons_drop, if_pos hk, List.flatMap_append, List.flatMap_cons, hA, hB]
  have hcur : cur.toList = A ++ (G ++ (B ++ R)) := by rw [hR, hsplit]; simp only [List.append_assoc]
  have e1 : cur.toList.take (k * sz + fo) = A ++ G.take fo := by
    rw [hcur, ← lA, List.take_length_add_append, List.take_append_of_le_length (by omega)]
  have e2 : cur.toList.drop (k * sz + fo + vs.size) = G.drop (fo + vs.size) ++ (B ++ R) := by
    rw [hcur, ← lA, Nat.add_assoc, List.drop_length_add_append, List.drop_append_of_le_length (by omega)]
  have e3 : (storeIn cur (k * sz + fo) vs).toList = A ++ (g y ++ (B ++ R)) := by
    unfold storeIn
    rw [e1, e2, hy]; simp only [List.append_assoc]
  constructor
  · rw [e3, hset]
    have : A ++ (g y ++ (B ++ R)) = (A ++ (g y ++ B)) ++ R := by simp only [List.append_assoc]
    rw [this]
    exact List.take_left' (by rw [List.length_append, List.length_append, lA, lB, hg]; omega)
  · have h1 := congrArg List.length e3
    have h2 := congrArg List.length hcur
    simp only [List.length_append, Array.length_toList, hg, lG] at h1 h2
    omega
end
end Go.Proofs.YtjabcbagggicaaaGreatDoor
end

section
/-
  Parts of slices: s[:k] and s[k:].
-/
namespace Go.Proofs.YtjabcbagggicaaaGreatDoor
open Go.RowKit
set_option maxRecDepth 100000
set_option linter.unusedVariables false
set_option linter.unusedSimpArgs false
section
variable {P : Program}
theorem run_slhi {ρ : Operand → Value} {o : Oper} {t e : TypeId} {x y : Operand} {b off n c sz : Nat} {k : IntKind} {j : Int} (ho : o.op = .slice t x none (some y) none) (hx : ρ x = .slice (some ⟨b, off, none⟩) n c) (hy : ρ y = .int k j)
    (hu : P.underlying t = some (.slice e)) (hs : (P.info? e).map (·.size) = some sz) (h0 : 0 ≤ j) (h1 : j ≤ c) (w : World) : (execOp ρ o).run P w = .ok (.value (.slice (some ⟨b, off, none⟩) j.toNat c)) w := by
  cases he : P.info? e with
  | none => rw [he] at hs; cases hs
  | some i =>
    unfold execOp
    simp [ho, hx, hy, Instr.sliceAt, Instr.slice, Instr.sliceBounds, Instr.sliceBound, Sem.run_bind, asIntOf, run_underlying hu, h0, h1, sizeOf, typeInfo, he, add_off]
theorem run_sllo {ρ : Operand → Value} {o : Oper} {t e : TypeId} {x y : Operand} {b off n c sz : Nat} {k : IntKind} {j : Int} (ho : o.op = .slice t x (some y) none none) (hx : ρ x = .slice (some ⟨b, off, none⟩) n c) (hy : ρ y = .int k j)
    (hu : P.underlying t = some (.slice e)) (hs : (P.info? e).map (·.size) = some sz) (h0 : 0 ≤ j) (h1 : j ≤ n) (w : World) : (execOp ρ o).run P w = .ok (.value (.slice (some ⟨b, off + (if c = j.toNat then 0 else j.toNat * sz), none⟩) (n - j.toNat) (c - j.toNat))) w := by
  cases he : P.info? e with
  | none => rw [he] at hs; cases hs
  | some i =>
    rw [he] at hs
    obtain rfl := Option.some.inj hs
    unfold execOp
    by_cases hc : c = j.toNat
    · simp [ho, hx, hy, Instr.sliceAt, Instr.slice, Instr.sliceBounds, Instr.sliceBound, Sem.run_bind, asIntOf, run_underlying hu, h0, h1, sizeOf, typeInfo, he, add_off, hc]
    · simp [ho, hx, hy, Instr.sliceAt, Instr.slice, Instr.sliceBounds, Instr.sliceBound, Sem.run_bind, asIntOf, run_underlying hu, h0, h1, sizeOf, typeInfo, he, add_off, hc]
end
end Go.Proofs.YtjabcbagggicaaaGreatDoor
end

section
/-
  append(s, x..) where x is a slice that came in, nil or not, empty or not.
-/
namespace Go.Proofs.YtjabcbagggicaaaGreatDoor
open Go.RowKit
set_option maxRecDepth 100000
set_option linter.unusedVariables false
set_option linter.unusedSimpArgs false
section
variable {P : Program} {w : World} {ob : List Blk}
theorem own_append_nilc {t ty T : TypeId} {i : TypeInfo} (ht : P.underlying t = some (.slice T)) (hi : P.info? T = some i) {sz : Nat} {v : Value} {n : Nat} {xs : List Value} (hv : Sl T sz v n xs ob) (c : Nat) :
    (Builtin.append_ #[t, t] ty #[v, .slice none 0 c]).run P w = .ok v w := by
  rcases hv.2 with ⟨rfl, rfl, rfl⟩ | ⟨g, cap, cur, rfl, rfl, hnc, hcm, hcs, htake⟩
  · simp [Builtin.append_, run_underlying ht, sizeOf, typeInfo, hi, Builtin.lenOf, Builtin.firstCells]
  · simp [Builtin.append_, run_underlying ht, sizeOf, typeInfo, hi, Builtin.lenOf, Builtin.firstCells, hnc, storeCells]
end
section
variable {M : List Nat} {P : Program} {n0 : Nat} {ops : Array Oper} {W : World} {Q : Exit → Act → World → Prop} {rest : List Oper} {o : Oper} {E ob L0 : List Blk} {f : Nat → Value}
theorem s_appendR {α : Type} {g : α → List Value} {t T : TypeId} {s x : Operand} {i : TypeInfo} {z : Value} {sz : Nat} (hg : ∀ y, (g y).length = sz) (hw : want ops n0 f o = true) (ho : o.op = .call { callee := .builtin .append, args := #[s, x], argTypes := #[t, t] })
    (ht : P.underlying t = some (.slice T)) (hi : P.info? T = some i) (hz : i.zero = some z) (hsz : i.size = sz) (hzs : z.cells.size = sz)
    {v : Value} {n : Nat} {xs : List Value} (hs : ev n0 f s = v) (hv : Sl T sz v n xs ob) {A : Option Addr} {c : Nat} {l : List α} (hx : ev n0 f x = .slice A l.length c)
    (hR : ∀ w, Own M W w (E ++ ob ++ L0) → Reads g w w.heap.size A l) (h1 : ∀ y, ∀ u ∈ g y, u.oneCell' = true)
    (h63 : n + l.length ≤ maxLen) (hbytes : (n + l.length) * i.bytes ≤ 140737488355328)
    (h : ∀ v' ob', Sl T sz v' (n + l.length) (xs ++ l.flatMap g) ob' → Seg M P n0 ops W Q rest (E ++ ob' ++ L0) (upd f o.dst v')) : Seg M P n0 ops W Q (o :: rest) (E ++ ob ++ L0) f :=
  s_step hw fun w hO => by
    have hone : ∀ u ∈ l.flatMap g, u.oneCell' = true := fun u hu => by
      obtain ⟨y, _, hy⟩ := List.mem_flatMap.1 hu
      exact h1 y u hy
    cases A with
    | none =>
      have h0 : l = [] := by
        cases l with
        | nil => rfl
        | cons y l => obtain ⟨b, off, e, _⟩ := hR w hO (by simp); cases e
      subst h0
      have hv' : Sl T sz v (n + ([] : List α).length) (xs ++ ([] : List α).flatMap g) ob := by simpa using hv
      refine wp_val v (w' := w) ?_ ((h v ob hv').go w hO)
      have hx' : ev n0 f x = .slice none 0 c := hx
      unfold execOp
      simp only [ho, resolve, invoke, builtin, Sem.run_bind, Sem.run_pure, Result.andThen_ok, List.map_toArray, List.map_cons, List.map_nil, hs, hx', own_append_nilc ht hi hv c]
    | some a =>
      have hnews : ∀ j u, (l.flatMap g)[j]? = some u → w.cell? (a.add j) = some u := fun j u hj => by
        have h0 : 0 < l.length := by
          cases l with
          | nil => simp at hj
          | cons y l => simp
        obtain ⟨b, off, e, _, hc⟩ := hR w hO h0
        obtain rfl := Option.some.inj e
        rw [add_off]
        exact hc j u hj
      obtain ⟨v', w', ob', hr, h2, h3⟩ := own_append (P := P) (ty := o.type) (c := c) ht hi hz hsz hzs hv hO (flat_len hg l) hnews hone h63 hbytes
      refine wp_val v' (w' := w') ?_ ((h v' ob' h2).go w' h3)
      unfold execOp
      simp only [ho, resolve, invoke, builtin, Sem.run_bind, Sem.run_pure, Result.andThen_ok, List.map_toArray, List.map_cons, List.map_nil, hs, hx, hr]
end
end Go.Proofs.YtjabcbagggicaaaGreatDoor
end

section
/-
  Steps: make of a slice, copy out of a string, unsafe.String of a block of the call's own. No condition of their own but the bounds that each theorem names.
-/
namespace Go.Proofs.YtjabcbagggicaaaGreatDoor
open Go.RowKit
set_option linter.unusedVariables false
set_option linter.unusedSimpArgs false

theorem freeze_drawn (w : World) (a : Addr) (m : Nat) : (w.freeze a m).drawn = w.drawn := by unfold World.freeze; split <;> rfl
theorem Own.freeze {M : List Nat} {W w : World} {x : Blk} {L : List Blk} (h : Own M W w (x :: L)) (m : Nat) : Own M W (w.freeze ⟨x.b, 0, none⟩ m) L := by
  have hne : ∀ k, k ≠ x.b → (w.freeze ⟨x.b, 0, none⟩ m).heap[k]? = w.heap[k]? := fun k hk => by
    unfold World.freeze
    split
    · rfl
    · simp only [Array.getElem?_modify]; rw [if_neg (Ne.symm hk)]
  have hsz : (w.freeze ⟨x.b, 0, none⟩ m).heap.size = w.heap.size := by unfold World.freeze; split <;> simp
  have ho : (w.freeze ⟨x.b, 0, none⟩ m).os = w.os ∧ (w.freeze ⟨x.b, 0, none⟩ m).tape = w.tape ∧ (w.freeze ⟨x.b, 0, none⟩ m).output = w.output := by unfold World.freeze; split <;> exact ⟨rfl, rfl, rfl⟩
  have hap := h.apart
  rw [List.map_cons, List.nodup_cons] at hap
  refine ⟨ho.1.trans h.os, ho.2.1.trans h.tape, ho.2.2.trans h.output, by rw [hsz]; exact h.size, by rw [freeze_drawn]; exact h.drawn, fun k hk hm => ?_, fun y hy => ?_, fun y hy => h.base y (List.mem_cons_of_mem _ hy), hap.2⟩
  · rw [hne k (fun e => by
      rcases h.base x List.mem_cons_self with h1 | h1
      · omega
      · exact hm (e ▸ h1))]
    exact h.kept k hk hm
  · rw [hne y.b (fun e => hap.1 (e ▸ List.mem_map_of_mem hy))]
    exact h.held y (List.mem_cons_of_mem _ hy)
section
variable {M : List Nat} {P : Program} {n0 : Nat} {ops : Array Oper} {W : World} {Q : Exit → Act → World → Prop} {rest : List Oper} {o : Oper} {L : List Blk} {f : Nat → Value}
/-- make([]T, l, c). -/
theorem s_make {t e : TypeId} {x y : Operand} {i : TypeInfo} {z : Value} {kl kc : IntKind} {l c : Int} (hw : want ops n0 f o = true) (ho : o.op = .makeSlice t x y) (hx : ev n0 f x = .int kl l) (hy : ev n0 f y = .int kc c)
    (ht : P.underlying t = some (.slice e)) (hi : P.info? e = some i) (hz : i.zero = some z) (h0 : 0 ≤ l) (hlc : l ≤ c) (hbytes : (i.bytes : Int) * c ≤ 281474976710656) (h63 : c ≤ 9223372036854775807)
    (h : ∀ b, Seg M P n0 ops W Q rest (⟨b, madeCells z.cells (c.toNat * i.size), e⟩ :: L) (upd f o.dst (.slice (some ⟨b, 0, none⟩) l.toNat c.toNat))) : Seg M P n0 ops W Q (o :: rest) L f :=
  s_step hw fun w hO => by
    refine wp_val _ (w' := w.alloc (.cells (madeCells z.cells (c.toNat * i.size)) e)) ?_ ((h w.heap.size).go _ (hO.alloc _ _))
    have hr := run_make (P := P) w t e i z ht hi hz kl kc l c h0 hlc hbytes h63
    unfold execOp
    simp only [ho, hx, hy, Sem.run_bind, Sem.run_pure, Result.andThen_ok, hr]
/-- copy(b, s): s a string, b a slice of the block at the head of the list, as long as s. -/
theorem s_copyS {t u e : TypeId} {x y : Operand} {b cap : Nat} {cs : Array Value} {T : TypeId} {s : ByteArray} (hw : want ops n0 f o = true) (ho : o.op = .call { callee := .builtin .copy, args := #[x, y], argTypes := #[t, u] })
    (hx : ev n0 f x = .slice (some ⟨b, 0, none⟩) s.size cap) (hy : ev n0 f y = .string s) (ht : P.underlying t = some (.slice e)) (hs : (P.info? e).map (·.size) = some 1) (hc : cs.size = s.size)
    (h : Seg M P n0 ops W Q rest (⟨b, (Lib.byteCells s.data.toList).toArray, T⟩ :: L) (upd f o.dst (goInt s.size))) : Seg M P n0 ops W Q (o :: rest) (⟨b, cs, T⟩ :: L) f :=
  s_step hw fun w hO => by
    have hr := Lib.run_copy_row_string (P := P) w t u o.type e b 0 s.size cap s cs T ht hs (hO.held _ List.mem_cons_self) (Nat.le_refl _) (by omega)
    have hcs : (cs.toList.take 0 ++ Lib.byteCells s.data.toList ++ cs.toList.drop (0 + s.size)).toArray = (Lib.byteCells s.data.toList).toArray := by
      rw [List.take_zero, List.nil_append, List.drop_of_length_le (by rw [Array.length_toList]; omega), List.append_nil]
    rw [hcs] at hr
    refine wp_val _ (w' := w.setRow b (Lib.byteCells s.data.toList).toArray) ?_ (h.go _ (hO.put (i := 0) (x := ⟨b, cs, T⟩) rfl _))
    unfold execOp
    simp only [ho, resolve, invoke, builtin, Sem.run_bind, Sem.run_pure, Result.andThen_ok, List.map_toArray, List.map_cons, List.map_nil, hx, hy, hr]
/-- unsafe.String(&b[0], len(b)): the block at the head of the list is given up. -/
theorem s_ustr {t u e : TypeId} {x y : Operand} {b : Nat} {s : ByteArray} (hw : want ops n0 f o = true) (ho : o.op = .call { callee := .builtin .unsafeString, args := #[x, y], argTypes := #[t, u] })
    (hx : ev n0 f x = .pointer (some ⟨b, 0, none⟩)) (hy : ev n0 f y = .int .i64 s.size) (ht : P.underlying t = some (.pointer e)) (hc : P.cellsOf e = 1) (hne : s.size ≠ 0) (h63 : s.size ≤ 9223372036854775807)
    (h : Seg M P n0 ops W Q rest L (upd f o.dst (.string s))) : Seg M P n0 ops W Q (o :: rest) (⟨b, (Lib.byteCells s.data.toList).toArray, e⟩ :: L) f :=
  s_step hw fun w hO => by
    have hg := hO.held _ List.mem_cons_self
    have hl : s.data.toList.length = s.size := by rw [← Lib.size_eq]
    have hr := Lib.run_unsafeString_row (P := P) w t u o.type e ht hc b s.size (by unfold World.shape?; simp only at hg; rw [hg]; simp [Lib.byteCells_length, hl]) s.data.toList (fun e => hne (by rw [← hl, e]; rfl)) (by omega) (by omega)
      (fun j x hx => by
        rw [add_off, cell_of_row w b (0 + j) _ e _ hg]
        simp [Lib.byteCells, hx])
    rw [hl] at hr
    refine wp_val _ (w' := w.freeze ⟨b, 0, none⟩ s.size) ?_ (h.go _ (hO.freeze s.size))
    unfold execOp
    simp only [ho, resolve, invoke, builtin, Sem.run_bind, Sem.run_pure, Result.andThen_ok, List.map_toArray, List.map_cons, List.map_nil, hx, hy, hr]
end
end Go.Proofs.YtjabcbagggicaaaGreatDoor
end

section
/-
  strings.Clone returns the string itself (for at most 2^48 bytes); nothing that was there is changed.
-/
namespace Go.Proofs.YtjabcbagggicaaaGreatDoor
open Go.RowKit
set_option maxRecDepth 100000
set_option linter.unusedVariables false
set_option linter.unusedSimpArgs false

theorem infoByte9 : (Tryz.prog.info? 5).map (fun i => (i.zero.map (·.cells.size), i.size, i.bytes)) = some (some 1, 1, 1) := by kernel_rfl
theorem byte_info : ∃ i z, Tryz.prog.info? 5 = some i ∧ i.zero = some z ∧ i.size = 1 ∧ z.cells.size = 1 ∧ i.bytes = 1 := by
  have h := infoByte9
  cases hi : Tryz.prog.info? 5 with
  | none => rw [hi] at h; cases h
  | some i =>
    rw [hi] at h
    simp only [Option.map_some, Option.some.injEq, Prod.mk.injEq] at h
    cases hz : i.zero with
    | none => rw [hz] at h; simp at h
    | some z => rw [hz] at h; simp at h; exact ⟨i, z, rfl, hz, h.2.1, h.1, h.2.2⟩
theorem empty_of {s : ByteArray} (h : (s.size : Int) = 0) : s = ⟨#[]⟩ := by
  have h2 : s.data.size = 0 := Int.ofNat.inj h
  exact ByteArray.ext (Array.eq_empty_of_size_eq_zero h2)

theorem sclone_any (s : ByteArray) (w : World) (hs : s.size ≤ 281474976710656) :
    Calls Tryz.prog 73 #[.string s] w fun e w' => e = .returned (.string s) ∧ Below w.heap.size w w' := by
  refine calls_ok (n := 18) Tryz.func73 rfl (by kernel_rfl) (by kernel_rfl) ?_
  refine ok_seq ?_
  refine ok_region ?_
  refine s_val (.string ⟨#[]⟩) (by kernel_rfl) (fun _ => by kernel_rfl) ?_
  refine s_nil ?_
  refine fin_seq ?_
  refine ok_seq ?_
  refine ok_seq ?_
  refine ok_region ?_
  refine s_val (.string s) (by kernel_rfl) (fun _ => by kernel_rfl) ?_
  refine s_val (.int .i64 ((s).size)) (by kernel_rfl) (fun _ => by kernel_rfl) ?_
  by_cases h1 : ((s).size : Int) = 0
  · skip
    refine s_dec (p := ((s).size : Int) = 0) true (by kernel_rfl) (fun _ => by kernel_rfl) (decide_eq_true (h1)) ?_
    refine s_nil ?_
    refine fin_seq ?_
    refine ok_true (by kernel_rfl) ?_
    refine ok_seq ?_
    refine ok_region ?_
    refine s_val (.string ⟨#[]⟩) (by kernel_rfl) (fun _ => by kernel_rfl) ?_
    refine s_nil ?_
    refine fin_seq ?_
    refine ok_ret ?_
    refine fin_seq_ret ?_
    refine fin_ret (.string ⟨#[]⟩) Tryz.results73 (by kernel_rfl) ?_
    exact fun w hO => ⟨by rw [empty_of (s := s) (by assumption)], hO.below⟩
  · skip
    refine s_dec (p := ((s).size : Int) = 0) false (by kernel_rfl) (fun _ => by kernel_rfl) (decide_eq_false (h1)) ?_
    refine s_nil ?_
    refine fin_seq ?_
    refine ok_false (by kernel_rfl) ?_
    refine ok_skip ?_
    refine fin_seq ?_
    refine ok_seq ?_
    refine ok_region ?_
    refine s_val (.string s) (by kernel_rfl) (fun _ => by kernel_rfl) ?_
    refine s_val (.int .i64 ((s).size)) (by kernel_rfl) (fun _ => by kernel_rfl) ?_
    obtain ⟨i, z, e1, e2, e3, e4, e5⟩ := byte_info
    refine s_make (kl := .i64) (kc := .i64) (l := (s.size : Int)) (c := (s.size : Int)) (by kernel_rfl) rfl (by kernel_rfl) (by kernel_rfl) Tryz.underlying96 e1 e2 (by omega) (by omega) (by rw [e5]; omega) (by omega) (fun b => ?_)
    rw [show ((s.size : Nat) : Int).toNat = s.size from rfl]
    obtain ⟨cs, hcs⟩ : ∃ cs, cs = madeCells z.cells (s.size * i.size) := ⟨_, rfl⟩
    have hcz : cs.size = s.size := by rw [hcs, size_madeCells, e3]; simp
    rw [← hcs]
    refine s_val (.slice (some ⟨b, 0, none⟩) s.size s.size) (by kernel_rfl) (fun _ => by kernel_rfl) ?_
    refine s_nil ?_
    refine fin_seq ?_
    refine ok_seq ?_
    refine ok_region ?_
    refine s_val (.slice (some ⟨b, 0, none⟩) s.size s.size) (by kernel_rfl) (fun _ => by kernel_rfl) ?_
    refine s_val (.string s) (by kernel_rfl) (fun _ => by kernel_rfl) ?_
    refine s_copyS (b := b) (cap := s.size) (s := s) (cs := cs) (by kernel_rfl) rfl (by kernel_rfl) (by kernel_rfl) Tryz.underlying96 (by kernel_rfl) hcz ?_
    refine s_nil ?_
    refine fin_seq ?_
    refine ok_seq ?_
    refine ok_region ?_
    refine s_val (.slice (some ⟨b, 0, none⟩) s.size s.size) (by kernel_rfl) (fun _ => by kernel_rfl) ?_
    refine s_val (.pointer (some ⟨b, 0, none⟩)) (by kernel_rfl) (run_ixsl (b := b) (off := 0) (n := s.size) (c := s.size) (k := .i64) (j := 0) (e := 5) (sz := 1) rfl (by kernel_rfl) (by kernel_rfl) (by kernel_rfl) (by kernel_rfl) (by omega) (by omega) (by omega)) ?_
    refine s_val (.slice (some ⟨b, 0, none⟩) s.size s.size) (by kernel_rfl) (fun _ => by kernel_rfl) ?_
    refine s_val (.int .i64 (s.size : Int)) (by kernel_rfl) (fun _ => by kernel_rfl) ?_
    refine s_ustr (s := s) (by kernel_rfl) rfl (by kernel_rfl) (by kernel_rfl) Tryz.underlying125 (by unfold Program.cellsOf; simp [e1, e3]) (by omega) (by omega) ?_
    refine s_val (.string s) (by kernel_rfl) (fun _ => by kernel_rfl) ?_
    refine s_nil ?_
    refine fin_seq ?_
    refine ok_ret ?_
    refine fin_ret (.string s) Tryz.results73 (by kernel_rfl) ?_
    exact fun w hO => ⟨rfl, hO.below⟩
theorem clone_any (s : ByteArray) (w : World) (hs : s.size ≤ 281474976710656) :
    Calls Tryz.prog 38 #[.string s] w fun e w' => e = .returned (.string s) ∧ Below w.heap.size w w' := by
  refine calls_ok (n := 5) Tryz.func38 rfl (by kernel_rfl) (by kernel_rfl) ?_
  refine ok_seq ?_
  refine ok_region ?_
  refine s_val (.string ⟨#[]⟩) (by kernel_rfl) (fun _ => by kernel_rfl) ?_
  refine s_nil ?_
  refine fin_seq ?_
  refine ok_seq ?_
  refine ok_region ?_
  refine s_val (.string s) (by kernel_rfl) (fun _ => by kernel_rfl) ?_
  refine s_call (k := 73) (args := #[.string s]) (.string s) (by kernel_rfl) (fun _ => by kernel_rfl) (fun w _ => sclone_any s w hs) ?_
  refine s_val (.string s) (by kernel_rfl) (fun _ => by kernel_rfl) ?_
  refine s_nil ?_
  refine fin_seq ?_
  refine ok_ret ?_
  refine fin_ret (.string s) Tryz.results38 (by kernel_rfl) ?_
  exact fun w hO => ⟨rfl, hO.below⟩
end Go.Proofs.YtjabcbagggicaaaGreatDoor
end

section
/-
  Package version: Print: it returns the string of a valid version, and the empty string for any other; nothing that was there is changed. Conditions: strings of at most a million bytes; the library's table of powers of ten reads as it is laid.
-/
namespace Go.Proofs.YtjabcbagggicaaaGreatDoor
open Go.RowKit

def digs (a b c : Int) : List (List UInt8) := [Lib.itoa a, Lib.itoa b, Lib.itoa c]
theorem digits_mk (n : Int) (h0 : -9223372036854775808 ≤ n) (h1 : n ≤ 9223372036854775807) (w : World) (ht : HasTab w) :
    Calls Tryz.prog 44 #[.int .i64 n] w fun e w' => e = .returned (.string (mkS (Lib.itoa n))) ∧ Below w.heap.size w w' := digits_any n h0 h1 w ht
theorem dec_len (n : Nat) (h : n ≤ 9999) : (Lib.decDigits n).length ≤ 4 := by
  rw [Lib.decDigits_length]
  unfold Lib.nDigits
  split
  · omega
  · unfold Lib.nDigits
    split
    · omega
    · unfold Lib.nDigits
      split
      · omega
      · rw [Lib.nDigits_small (by omega)]; omega
theorem itoa_len {n : Int} (h : numOkI n = true) : (Lib.itoa n).length ≤ 4 := by
  rw [itoa_nat h]
  apply dec_len
  unfold numOkI at h; simp at h; omega
end Go.Proofs.YtjabcbagggicaaaGreatDoor
end

section
/-
  Package version: Parse: it returns the version that the document's own reading (parseR) finds, and OK; or the zero version and ErrVersion; nothing that was there is changed. Conditions: a string of at most a million bytes; the library's table of powers of ten reads as it is laid.
-/
namespace Go.Proofs.YtjabcbagggicaaaGreatDoor
open Go.RowKit

def parV (s : List UInt8) : Ver := (parseR s).getD Ver.zero
def parE (s : List UInt8) : Int := if (parseR s).isSome then 0 else 5
theorem mkS_ne {a b : List UInt8} (h : a ≠ b) : ((mkS a).toList == (mkS b).toList) = false := by
  rw [Lib.toList_data, Lib.toList_data, mk_data, mk_data]; simpa using h
def PEnd (s : List UInt8) (w : World) (e : Ending) (w' : World) : Prop := e = .returned (.tuple #[verV (parV s), .int .i64 (parE s)]) ∧ Below w.heap.size w w'

theorem ver_one (a b c : Int) (p q : ByteArray) : (#[.int .i64 a, .int .i64 b, .int .i64 c, .string p, .string q] : Array Value).all (·.oneCell') = true := by simp [Value.oneCell']
theorem set34 {w1 : World} {B : Nat} {a b c x0 y0 : Value} (x y : Value) (hg : w1.heap[B]? = some (.cells #[a, b, c, x0, y0] 24)) :
    ((w1.setCell ⟨B, 3, none⟩ x).setCell ⟨B, 4, none⟩ y).heap[B]? = some (.cells #[a, b, c, x, y] 24) ∧ ∀ k, B ≠ k → ((w1.setCell ⟨B, 3, none⟩ x).setCell ⟨B, 4, none⟩ y).heap[k]? = w1.heap[k]? := by
  have e3 := setCell_eq_setRow w1 B 3 _ _ _ x hg
  have hq3 := setRow_heap w1 B _ #[a, b, c, x, y0] _ _ hg
  have e4 := setCell_eq_setRow _ B 4 _ _ _ y hq3
  have hwv : (w1.setCell ⟨B, 3, none⟩ x).setCell ⟨B, 4, none⟩ y = (w1.setRow B #[a, b, c, x, y0]).setRow B #[a, b, c, x, y] := by rw [e3]; exact e4
  rw [hwv]
  exact ⟨setRow_heap _ _ _ _ _ _ hq3, fun k hk => by rw [setRow_apart _ _ _ _ hk, setRow_apart _ _ _ _ hk]⟩

theorem core_any (v : Ver) (w : World) (hp : v.pre.length ≤ 1000000) :
    Calls Tryz.prog 62 #[verV v] w fun e w' => e = .returned (verV { v with build := [] }) ∧ Below w.heap.size w w' := by
  obtain ⟨a, b, c, p, q⟩ := v
  unfold verV
  dsimp only at hp ⊢
  go_enter Tryz.func62, Tryz.ntmps62
  go_wp2_with fail
  refine (clone_any (mkS p) _ (by rw [mkS_sz]; omega)).mono ?_
  rintro e w1 ⟨rfl, hb1⟩
  have hz1 := hb1.size
  simp only [size_box] at hz1
  have hgB := Lib.hid ((hb1.block w.heap.size (by simp only [size_box]; omega)).trans ((heap_old _ _ (by simp only [size_box]; omega)).trans (heap_new w _)))
  have hgR := Lib.hid ((hb1.block (w.heap.size + 1) (by simp only [size_box]; omega)).trans (heap_at _ _ _ (by simp only [size_box])))
  have hbw : Below w.heap.size w w1 := (((Below.refl _ _).alloc (Nat.le_refl _) _).alloc (by simp only [size_box]; omega) _).trans (hb1.mono (by simp only [size_box]; omega))
  obtain ⟨c3, f3⟩ := cell_row (j := 3) hgB.out (by simp)
  obtain ⟨c4, f4⟩ := cell_row (j := 4) hgB.out (by simp)
  obtain ⟨hL, hO⟩ := set34 (.string (mkS p)) (.string ⟨#[]⟩) hgB.out
  have HL := Lib.hid hL
  have HL0 := Lib.hid ((hO (w.heap.size + 1) (by omega)).trans hgR.out)
  have hbL : Below w.heap.size w ((w1.setCell ⟨w.heap.size, 3, none⟩ (.string (mkS p))).setCell ⟨w.heap.size, 4, none⟩ (.string ⟨#[]⟩)) := (hbw.setCell (by simp) _).setCell (by simp) _
  clear hL hO
  go_wp2_with (first
    | (refine wpList_load_row rfl 24 _ rfl w.heap.size rfl _ _ _ _ HL.out Tryz.underlying24 rfl (by kernel_rfl) ?_)
    | (refine wpList_store_row rfl 24 _ _ rfl (w.heap.size + 1) #[.int .i64 a, .int .i64 b, .int .i64 c, .string (mkS p), .string ⟨#[]⟩] rfl rfl _ _ HL0.out (by kernel_rfl) rfl (ver_one _ _ _ _ _) ?_))
  have hr := results_cell_row (P := Tryz.prog) (fn := Tryz.f62) Tryz.results62
  refine bodyPost_ret (v := .agg #[.int .i64 a, .int .i64 b, .int .i64 c, .string (mkS p), .string ⟨#[]⟩]) (hr _ _ (w.heap.size + 1) _ _ _ _ rfl (setRow_heap _ _ _ _ _ _ HL0.out) Tryz.underlying24 rfl (by kernel_rfl)) rfl ⟨rfl, below_setRow hbL (by omega) _⟩
end Go.Proofs.YtjabcbagggicaaaGreatDoor
end
