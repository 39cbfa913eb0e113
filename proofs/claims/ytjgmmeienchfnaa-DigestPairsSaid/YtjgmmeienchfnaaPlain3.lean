/-
  Plain mathematics for chapter 1: how many bytes the first rune of a string takes; the pieces of a string at a byte, and what joins them again.
-/
import Derived.Test.YtjgmmeienchfnaaPlain1
import Derived.Lib.MapLaws
import Derived.Lib.TrimUEq
namespace Go.Proofs.Ytjgmmeienchfnaa
open Go.RowKit

theorem wide_other (l : List UInt8) (h : (Lib.decodeL l).1 ≠ 65533) : Lib.runeLen ((Lib.decodeL l).1 : Int) = ((Lib.decodeL l).2 : Int) := Lib.runeLen_decode l h
theorem wide_bad (l : List UInt8) (hne : l ≠ []) (h : (Lib.decodeL l).1 = 65533) (hp : Lib.hasPrefix l [239, 191, 189] = false) : (Lib.decodeL l).2 = 1 := by
  apply Classical.byContradiction
  intro h1
  have he := Lib.encode_decode l hne (fun hh => h1 hh.2)
  rw [h] at he
  have e3 : Lib.encodeRune ((65533 : Nat) : Int) = [239, 191, 189] := by decide
  rw [e3] at he
  unfold Lib.hasPrefix at hp
  rw [Bool.eq_false_iff] at hp
  apply hp
  rw [List.isPrefixOf_iff_prefix, he]
  exact List.take_prefix _ _
theorem wide_err (l : List UInt8) (hp : Lib.hasPrefix l [239, 191, 189] = true) : (Lib.decodeL l).2 = 3 := by
  unfold Lib.hasPrefix at hp
  rw [List.isPrefixOf_iff_prefix] at hp
  obtain ⟨t, rfl⟩ := hp
  rw [Lib.decodeL_N]
  simp [Lib.decodeN]

/-! ### Pieces -/
def splitL (b : UInt8) : List UInt8 → List UInt8 → List (List UInt8)
  | acc, [] => [acc]
  | acc, c :: r => if c = b then acc :: splitL b [] r else splitL b (acc ++ [c]) r
def joinL (b : UInt8) : List (List UInt8) → List UInt8
  | [] => []
  | [x] => x
  | x :: y :: r => x ++ b :: joinL b (y :: r)

theorem splitL_ne (b : UInt8) (l : List UInt8) : ∀ acc, splitL b acc l ≠ [] := by
  induction l with
  | nil => intro acc; simp [splitL]
  | cons c r ih => intro acc; unfold splitL; split <;> simp [ih]
theorem join_split (b : UInt8) (l : List UInt8) : ∀ acc, joinL b (splitL b acc l) = acc ++ l := by
  induction l with
  | nil => intro acc; simp [splitL, joinL]
  | cons c r ih =>
    intro acc
    unfold splitL
    by_cases h : c = b
    · rw [if_pos h]
      have hne := splitL_ne b r []
      cases hs : splitL b [] r with
      | nil => exact absurd hs hne
      | cons y t =>
        rw [joinL, ← hs, ih [], h]; rfl
    · rw [if_neg h, ih, List.append_assoc]; rfl
theorem split_len (b : UInt8) (l : List UInt8) : ∀ acc, (splitL b acc l).length = (l.filter (· == b)).length + 1 := by
  induction l with
  | nil => intro acc; rfl
  | cons c r ih =>
    intro acc
    unfold splitL
    by_cases h : c = b
    · rw [if_pos h, List.length_cons, ih, List.filter_cons, if_pos (by simp [h]), List.length_cons]
    · rw [if_neg h, ih, List.filter_cons, if_neg (by simp [h])]
theorem split_free (b : UInt8) (l : List UInt8) : ∀ acc, b ∉ acc → ∀ x ∈ splitL b acc l, b ∉ x := by
  induction l with
  | nil => intro acc ha x hx; simp [splitL] at hx; subst hx; exact ha
  | cons c r ih =>
    intro acc ha x hx
    unfold splitL at hx
    by_cases h : c = b
    · rw [if_pos h] at hx
      rcases List.mem_cons.1 hx with rfl | hx
      · exact ha
      · exact ih [] (by simp) x hx
    · rw [if_neg h] at hx
      exact ih (acc ++ [c]) (by simp [ha]; exact fun e => h e.symm) x hx
theorem split_le (b : UInt8) (l : List UInt8) : ∀ acc, ∀ x ∈ splitL b acc l, x.length ≤ acc.length + l.length := by
  induction l with
  | nil => intro acc x hx; simp [splitL] at hx; subst hx; simp
  | cons c r ih =>
    intro acc x hx
    unfold splitL at hx
    by_cases h : c = b
    · rw [if_pos h] at hx
      rcases List.mem_cons.1 hx with rfl | hx
      · omega
      · have := ih [] x hx; simp at this ⊢; omega
    · rw [if_neg h] at hx
      have := ih (acc ++ [c]) x hx
      simp at this ⊢; omega
end Go.Proofs.Ytjgmmeienchfnaa
