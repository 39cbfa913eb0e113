/-
  What linchpinlaw0's Version makes is valid and short.
-/
import Derived.Test.YtndjdmbbndcohaaDoorGen0at0
import Derived.Test.YtndjdmbbndcohaaDoorGen0at5
import Derived.Test.YtndjdmbbndcohaaDoorGen0at10
import Derived.Test.YtndjdmbbndcohaaDoorVer4
namespace Go.Proofs.YtndjdmbbndcohaaDoor
open Go.RowKit

theorem numT_ok : ∀ k, k < 8 → numOkI (numT k) = true := by decide +kernel
theorem preT_ok : ∀ k, k < 14 → preOk (preT14 k) = true ∧ (preT14 k).length ≤ 300 := by decide +kernel
theorem bldT_ok : ∀ k, k < 6 → listOk (bldT k) = true ∧ (bldT k).length ≤ 300 := by decide +kernel
theorem plc_nat (v n : Int) (m : Nat) (hn : 0 < n) (hm : n = m) : (plc v n).toNat < m := by
  obtain ⟨h1, h2⟩ := plc_in v n hn; omega
theorem gen_may (l : List Int) (i : Nat) : (genV l i).may = true := by
  unfold genV Ver.may
  dsimp only
  rw [numT_ok _ (plc_nat _ 8 8 (by omega) rfl), numT_ok _ (plc_nat _ 8 8 (by omega) rfl), numT_ok _ (plc_nat _ 8 8 (by omega) rfl), (preT_ok _ (plc_nat _ 14 14 (by omega) rfl)).1, (bldT_ok _ (plc_nat _ 6 6 (by omega) rfl)).1]
  rfl
theorem gen_pre (l : List Int) (i : Nat) : (genV l i).pre.length ≤ 300 := (preT_ok _ (plc_nat _ 14 14 (by omega) rfl)).2
theorem gen_bld (l : List Int) (i : Nat) : (genV l i).build.length ≤ 300 := (bldT_ok _ (plc_nat _ 6 6 (by omega) rfl)).2
theorem text_long {v : Ver} (h : v.may = true) : 4 < v.print.length ∧ v.print.length ≤ 100000000 ∨ 100000000 < v.print.length := by
  rw [print_eq h]
  have p : ∀ n : Nat, 1 ≤ (Lib.decDigits n).length := fun n => by rw [Lib.decDigits_length]; exact Lib.nDigits_pos n
  have q : ∀ n : Int, 1 ≤ (Lib.itoa n).length := by
    intro n
    unfold Lib.itoa
    split
    · rw [List.length_cons]; omega
    · exact p _
  have h1 := q v.maj
  have h2 := q v.min
  have h3 := q v.pat
  have : 4 < v.text.length := by
    unfold Ver.text numsL; simp only [List.length_append, List.length_cons]; omega
  omega
end Go.Proofs.YtndjdmbbndcohaaDoor
