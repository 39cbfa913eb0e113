/-
  What the statements of chapter 3 share: short strings; what omega needs of the order of cuts.
-/
import Derived.Test.YtndjdmbbndcohaaA3
import Derived.Test.YtndjdmbbndcohaaG3
import Derived.Test.YtndjdmbbndcohaaOpenC
namespace Go.Proofs.Ytndjdmbbndcohaa
open Go.RowKit
set_option maxRecDepth 100000
set_option linter.unusedVariables false
set_option linter.unusedSimpArgs false
set_option maxHeartbeats 4000000

theorem short_of {c : Cu} (h : (decide (c.v.pre.length ≤ 100) && decide (c.v.build.length ≤ 100)) = true) : c.short := by
  simp only [Bool.and_eq_true, decide_eq_true_eq] at h; exact ⟨by omega, by omega⟩
theorem shortV_of {v : Ver} (h1 : ¬ (100 : Int) < (mkS v.pre).size) (h2 : ¬ (100 : Int) < (mkS v.build).size) : v.short := by
  rw [mkS_sz] at h1 h2; exact ⟨by omega, by omega⟩
theorem genS (l : List Int) (i : Nat) : (genV l i).short := ⟨Nat.le_trans (gen_pre l i) (by decide), Nat.le_trans (gen_bld l i) (by decide)⟩
theorem genCS (l : List Int) (i : Nat) : (genC l i).short := ⟨Nat.le_trans (genC_pre l i) (by decide), Nat.le_trans (genC_bld l i) (by decide)⟩
theorem end_short (e : Int) : (endC e).short := ⟨by show (0 : Nat) ≤ _; omega, by show (0 : Nat) ≤ _; omega⟩
end Go.Proofs.Ytndjdmbbndcohaa
