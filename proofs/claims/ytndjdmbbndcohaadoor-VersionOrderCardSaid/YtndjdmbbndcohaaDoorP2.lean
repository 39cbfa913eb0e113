/-
  What two statements of chapter 2 share: short strings of the versions that numbers name.
-/
import Derived.Test.YtndjdmbbndcohaaDoorAwake2
import Derived.Test.YtndjdmbbndcohaaDoorG3
import Derived.Test.YtndjdmbbndcohaaDoorRx3
import Derived.Test.YtndjdmbbndcohaaDoorVer7
namespace Go.Proofs.YtndjdmbbndcohaaDoor
open Go.RowKit
set_option maxRecDepth 100000
set_option linter.unusedVariables false
set_option linter.unusedSimpArgs false
set_option maxHeartbeats 4000000

def Ver.short (v : Ver) : Prop := v.pre.length ≤ 1000000 ∧ v.build.length ≤ 1000000
def zr (v : Ver) : Ver := ⟨v.maj, v.min, v.pat, [], v.build⟩
def zl (v : Ver) : Ver := ⟨v.maj, v.min, v.pat, [48], v.build⟩
theorem genS (l : List Int) (i : Nat) : (genV l i).short := ⟨Nat.le_trans (gen_pre l i) (by decide), Nat.le_trans (gen_bld l i) (by decide)⟩
theorem zr_short {v : Ver} (h : v.short) : (zr v).short := ⟨by show (0 : Nat) ≤ _; omega, h.2⟩
theorem zl_short {v : Ver} (h : v.short) : (zl v).short := ⟨by show (1 : Nat) ≤ _; omega, h.2⟩
theorem coreV_short {v : Ver} (h : v.short) : (coreV v).short := ⟨h.1, by show (0 : Nat) ≤ _; omega⟩
end Go.Proofs.YtndjdmbbndcohaaDoor
