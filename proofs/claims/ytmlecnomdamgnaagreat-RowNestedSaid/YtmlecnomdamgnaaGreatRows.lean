/-
  No cell of these rows narrows 'for every input' (looked for: loops, veiled, ifaces, maps, wideKeys, modest, calm, conditions, laid).
  DERIVED. THE GIVEN ROWS OF THIS SEAT. 6 by the template 'for every input the law returns true; each argument reads behind the call as it read before'; 0 by the template 'total and deterministic' (their statements: YtmlecnomdamgnaaGreatTotals.lean).
  GIVEN WITH THE SEED: the statements are not yours to turn. If you find one false, say at which input.
  Laid BY PROGRAM, IN A SANDBOX (cutbox-rows.mjs): the forced cells as the released guide's own fill.sh prints them over the translation bea0c2d4253a67bd… (all of the seat's roots in one cut). By AI agents, Wed Nov 11 2026. No macro, syntax, notation, axiom, sorry.
-/
import Derived.Test.YtmlecnomdamgnaaGreatChecked
import GoSem.Claim
import GoSem.ClaimJoined
import GoSem.ClaimMapViews
import Derived.JoinedTies
import Derived.KernelRfl
namespace Go.Proofs.YtmlecnomdamgnaaGreat
/- THE CELL 'sum', in the pinned program and in every row, IS THE sha256 OF THE DUMP (.gsa) THAT YtmlecnomdamgnaaGreatProg.lean LOADS. Nothing in Lean hashes anything: it is a label: what it is worth is what the hold of that sum in a sandbox is worth. -/
noncomputable def Tryz.pinned : Pinned := { name := "ytmlecnomdamgnaagreat", sum := "bea0c2d4253a67bdec01211df498fd79c720a8222680cd78c967b765fbb75dde", checked := Tryz.checked }
namespace Rows
def none {H : Type} : Left H := { results := [], args := [] }

/-- 'linchpinlaw4.RowAlgebra': WHATEVER THE INPUT: true; the input reads as it did. -/
def rowAlgebraSpec : ChangeSpec := { name := "rowAlgebra", fn := fun _ => fun
  | [d1, d2] => { results := [.lit (.bool true)], args := [d1, d2] }
  | _ => none }
def rowAlgebraRow : OpenClaim := { program := "ytmlecnomdamgnaagreat", sum := "bea0c2d4253a67bdec01211df498fd79c720a8222680cd78c967b765fbb75dde", func := "linchpin/linchpinlaw4.RowAlgebra", spec := "rowAlgebra", inPlace := ["internal/bytealg.IndexByteString", "internal/bytealg.IndexString", "internal/bytealg.abigen_runtime_cmpstring"], unfollowed := true, recurses := true, named := ["internal/bytealg.MaxLen"], apart := false }
def RowAlgebraSaid : Prop := rowAlgebraRow.holds Tryz.pinned (OpenSpec.ofChange rowAlgebraSpec)

/-- ITS FALSE NEIGHBOUR: 'it returns false'. Refute it at one input. -/
def rowAlgebraWrong : ChangeSpec := { name := "rowAlgebra", fn := fun _ => fun
  | [d1, d2] => { results := [.lit (.bool false)], args := [d1, d2] }
  | _ => none }
def RowAlgebraWrongFalsely : Prop := rowAlgebraRow.holds Tryz.pinned (OpenSpec.ofChange rowAlgebraWrong)

/-- 'linchpinlaw4.RowMeans': WHATEVER THE INPUT: true; the input reads as it did. -/
def rowMeansSpec : ChangeSpec := { name := "rowMeans", fn := fun _ => fun
  | [d1, d2] => { results := [.lit (.bool true)], args := [d1, d2] }
  | _ => none }
def rowMeansRow : OpenClaim := { program := "ytmlecnomdamgnaagreat", sum := "bea0c2d4253a67bdec01211df498fd79c720a8222680cd78c967b765fbb75dde", func := "linchpin/linchpinlaw4.RowMeans", spec := "rowMeans", inPlace := ["internal/bytealg.IndexByteString", "internal/bytealg.IndexString", "internal/bytealg.abigen_runtime_cmpstring"], unfollowed := true, recurses := true, named := ["internal/bytealg.MaxLen"], apart := false }
def RowMeansSaid : Prop := rowMeansRow.holds Tryz.pinned (OpenSpec.ofChange rowMeansSpec)

/-- ITS FALSE NEIGHBOUR: 'it returns false'. Refute it at one input. -/
def rowMeansWrong : ChangeSpec := { name := "rowMeans", fn := fun _ => fun
  | [d1, d2] => { results := [.lit (.bool false)], args := [d1, d2] }
  | _ => none }
def RowMeansWrongFalsely : Prop := rowMeansRow.holds Tryz.pinned (OpenSpec.ofChange rowMeansWrong)

/-- 'linchpinlaw4.RowLaws': WHATEVER THE INPUT: true; the input reads as it did. -/
def rowLawsSpec : ChangeSpec := { name := "rowLaws", fn := fun _ => fun
  | [d1, d2, d3] => { results := [.lit (.bool true)], args := [d1, d2, d3] }
  | _ => none }
def rowLawsRow : OpenClaim := { program := "ytmlecnomdamgnaagreat", sum := "bea0c2d4253a67bdec01211df498fd79c720a8222680cd78c967b765fbb75dde", func := "linchpin/linchpinlaw4.RowLaws", spec := "rowLaws", inPlace := ["internal/bytealg.IndexByteString", "internal/bytealg.IndexString", "internal/bytealg.abigen_runtime_cmpstring"], unfollowed := true, recurses := true, named := ["internal/bytealg.MaxLen"], apart := false }
def RowLawsSaid : Prop := rowLawsRow.holds Tryz.pinned (OpenSpec.ofChange rowLawsSpec)

/-- ITS FALSE NEIGHBOUR: 'it returns false'. Refute it at one input. -/
def rowLawsWrong : ChangeSpec := { name := "rowLaws", fn := fun _ => fun
  | [d1, d2, d3] => { results := [.lit (.bool false)], args := [d1, d2, d3] }
  | _ => none }
def RowLawsWrongFalsely : Prop := rowLawsRow.holds Tryz.pinned (OpenSpec.ofChange rowLawsWrong)

/-- 'linchpinlaw4.RowLent': WHATEVER THE INPUT: true; the input reads as it did. -/
def rowLentSpec : ChangeSpec := { name := "rowLent", fn := fun _ => fun
  | [d1, d2] => { results := [.lit (.bool true)], args := [d1, d2] }
  | _ => none }
def rowLentRow : OpenClaim := { program := "ytmlecnomdamgnaagreat", sum := "bea0c2d4253a67bdec01211df498fd79c720a8222680cd78c967b765fbb75dde", func := "linchpin/linchpinlaw4.RowLent", spec := "rowLent", inPlace := ["internal/bytealg.IndexByteString", "internal/bytealg.IndexString", "internal/bytealg.abigen_runtime_cmpstring"], unfollowed := true, recurses := true, named := ["internal/bytealg.MaxLen"], apart := false }
def RowLentSaid : Prop := rowLentRow.holds Tryz.pinned (OpenSpec.ofChange rowLentSpec)

/-- ITS FALSE NEIGHBOUR: 'it returns false'. Refute it at one input. -/
def rowLentWrong : ChangeSpec := { name := "rowLent", fn := fun _ => fun
  | [d1, d2] => { results := [.lit (.bool false)], args := [d1, d2] }
  | _ => none }
def RowLentWrongFalsely : Prop := rowLentRow.holds Tryz.pinned (OpenSpec.ofChange rowLentWrong)

/-- 'linchpinlaw4.RowSingle': WHATEVER THE INPUT: true; the input reads as it did. -/
def rowSingleSpec : ChangeSpec := { name := "rowSingle", fn := fun _ => fun
  | [d] => { results := [.lit (.bool true)], args := [d] }
  | _ => none }
def rowSingleRow : OpenClaim := { program := "ytmlecnomdamgnaagreat", sum := "bea0c2d4253a67bdec01211df498fd79c720a8222680cd78c967b765fbb75dde", func := "linchpin/linchpinlaw4.RowSingle", spec := "rowSingle", inPlace := ["internal/bytealg.IndexByteString", "internal/bytealg.IndexString", "internal/bytealg.abigen_runtime_cmpstring"], unfollowed := true, recurses := true, named := ["internal/bytealg.MaxLen"], apart := false }
def RowSingleSaid : Prop := rowSingleRow.holds Tryz.pinned (OpenSpec.ofChange rowSingleSpec)

/-- ITS FALSE NEIGHBOUR: 'it returns false'. Refute it at one input. -/
def rowSingleWrong : ChangeSpec := { name := "rowSingle", fn := fun _ => fun
  | [d] => { results := [.lit (.bool false)], args := [d] }
  | _ => none }
def RowSingleWrongFalsely : Prop := rowSingleRow.holds Tryz.pinned (OpenSpec.ofChange rowSingleWrong)

/-- 'linchpinlaw4.RowNested': WHATEVER THE INPUT: true; the input reads as it did. -/
def rowNestedSpec : ChangeSpec := { name := "rowNested", fn := fun _ => fun
  | [d1, d2, d3] => { results := [.lit (.bool true)], args := [d1, d2, d3] }
  | _ => none }
def rowNestedRow : OpenClaim := { program := "ytmlecnomdamgnaagreat", sum := "bea0c2d4253a67bdec01211df498fd79c720a8222680cd78c967b765fbb75dde", func := "linchpin/linchpinlaw4.RowNested", spec := "rowNested", inPlace := ["internal/bytealg.IndexByteString", "internal/bytealg.IndexString", "internal/bytealg.abigen_runtime_cmpstring"], unfollowed := true, recurses := true, named := ["internal/bytealg.MaxLen"], apart := false }
def RowNestedSaid : Prop := rowNestedRow.holds Tryz.pinned (OpenSpec.ofChange rowNestedSpec)

/-- ITS FALSE NEIGHBOUR: 'it returns false'. Refute it at one input. -/
def rowNestedWrong : ChangeSpec := { name := "rowNested", fn := fun _ => fun
  | [d1, d2, d3] => { results := [.lit (.bool false)], args := [d1, d2, d3] }
  | _ => none }
def RowNestedWrongFalsely : Prop := rowNestedRow.holds Tryz.pinned (OpenSpec.ofChange rowNestedWrong)

/- THE SECOND FORM. 'bulk': how many values and letters a reading holds, each counted each time it is reached (what is shared counts as often as it is met; a slice's spare places count too). A statement '..UptoSaid' is the law's where the arguments, and the package variables that the reading takes, are together of bulk at most 1048576: NARROWER than '..Said'. Prove '..Said' where nothing that the law and all that it calls make is longer than what came in: it says more and counts as full. Else prove '..UptoSaid'. A law counts once. -/
mutual
def uptoBulk {H : Type} : DataW H → Nat
  | .lit (.string bytes) => bytes.length + 1
  | .lit _ => 1
  | .nil => 1
  | .ptr d => uptoBulk d + 1
  | .slice elems spare => uptoBulkAll elems + uptoBulkAll spare + 1
  | .agg parts => uptoBulkAll parts + 1
  | .iface _ d => uptoBulk d + 1
  | .map entries => uptoBulkEntries entries + 1
  | .held _ => 1
def uptoBulkAll {H : Type} : List (DataW H) → Nat
  | [] => 0
  | d :: r => uptoBulk d + uptoBulkAll r
def uptoBulkEntries {H : Type} : List (Lit × DataW H) → Nat
  | [] => 0
  | x :: r => uptoBulkEntry x + uptoBulkEntries r
def uptoBulkEntry {H : Type} : Lit × DataW H → Nat
  | (.string bytes, d) => bytes.length + uptoBulk d + 1
  | (_, d) => uptoBulk d + 1
 end
def uptoSmall : (H : Type) → List (DataW H) → Bool := fun _ ds => decide (uptoBulkAll ds ≤ 1048576)
def OpenSpec.upto (s : _root_.Go.ChangeSpec) : _root_.Go.OpenSpec := { _root_.Go.OpenSpec.ofChange s with cond := some uptoSmall }

/-- 'linchpinlaw4.RowAlgebra', WHERE WHAT IT READS IS OF BULK AT MOST 1048576: true; the input reads as it did. -/
def rowAlgebraUptoRow : OpenClaim := { program := "ytmlecnomdamgnaagreat", sum := "bea0c2d4253a67bdec01211df498fd79c720a8222680cd78c967b765fbb75dde", func := "linchpin/linchpinlaw4.RowAlgebra", spec := "rowAlgebra", inPlace := ["internal/bytealg.IndexByteString", "internal/bytealg.IndexString", "internal/bytealg.abigen_runtime_cmpstring"], unfollowed := true, recurses := true, named := ["internal/bytealg.MaxLen"], apart := false, narrowed := true }
def RowAlgebraUptoSaid : Prop := rowAlgebraUptoRow.holds Tryz.pinned (OpenSpec.upto rowAlgebraSpec)

/-- 'linchpinlaw4.RowMeans', WHERE WHAT IT READS IS OF BULK AT MOST 1048576: true; the input reads as it did. -/
def rowMeansUptoRow : OpenClaim := { program := "ytmlecnomdamgnaagreat", sum := "bea0c2d4253a67bdec01211df498fd79c720a8222680cd78c967b765fbb75dde", func := "linchpin/linchpinlaw4.RowMeans", spec := "rowMeans", inPlace := ["internal/bytealg.IndexByteString", "internal/bytealg.IndexString", "internal/bytealg.abigen_runtime_cmpstring"], unfollowed := true, recurses := true, named := ["internal/bytealg.MaxLen"], apart := false, narrowed := true }
def RowMeansUptoSaid : Prop := rowMeansUptoRow.holds Tryz.pinned (OpenSpec.upto rowMeansSpec)

/-- 'linchpinlaw4.RowLaws', WHERE WHAT IT READS IS OF BULK AT MOST 1048576: true; the input reads as it did. -/
def rowLawsUptoRow : OpenClaim := { program := "ytmlecnomdamgnaagreat", sum := "bea0c2d4253a67bdec01211df498fd79c720a8222680cd78c967b765fbb75dde", func := "linchpin/linchpinlaw4.RowLaws", spec := "rowLaws", inPlace := ["internal/bytealg.IndexByteString", "internal/bytealg.IndexString", "internal/bytealg.abigen_runtime_cmpstring"], unfollowed := true, recurses := true, named := ["internal/bytealg.MaxLen"], apart := false, narrowed := true }
def RowLawsUptoSaid : Prop := rowLawsUptoRow.holds Tryz.pinned (OpenSpec.upto rowLawsSpec)

/-- 'linchpinlaw4.RowLent', WHERE WHAT IT READS IS OF BULK AT MOST 1048576: true; the input reads as it did. -/
def rowLentUptoRow : OpenClaim := { program := "ytmlecnomdamgnaagreat", sum := "bea0c2d4253a67bdec01211df498fd79c720a8222680cd78c967b765fbb75dde", func := "linchpin/linchpinlaw4.RowLent", spec := "rowLent", inPlace := ["internal/bytealg.IndexByteString", "internal/bytealg.IndexString", "internal/bytealg.abigen_runtime_cmpstring"], unfollowed := true, recurses := true, named := ["internal/bytealg.MaxLen"], apart := false, narrowed := true }
def RowLentUptoSaid : Prop := rowLentUptoRow.holds Tryz.pinned (OpenSpec.upto rowLentSpec)

/-- 'linchpinlaw4.RowSingle', WHERE WHAT IT READS IS OF BULK AT MOST 1048576: true; the input reads as it did. -/
def rowSingleUptoRow : OpenClaim := { program := "ytmlecnomdamgnaagreat", sum := "bea0c2d4253a67bdec01211df498fd79c720a8222680cd78c967b765fbb75dde", func := "linchpin/linchpinlaw4.RowSingle", spec := "rowSingle", inPlace := ["internal/bytealg.IndexByteString", "internal/bytealg.IndexString", "internal/bytealg.abigen_runtime_cmpstring"], unfollowed := true, recurses := true, named := ["internal/bytealg.MaxLen"], apart := false, narrowed := true }
def RowSingleUptoSaid : Prop := rowSingleUptoRow.holds Tryz.pinned (OpenSpec.upto rowSingleSpec)

/-- 'linchpinlaw4.RowNested', WHERE WHAT IT READS IS OF BULK AT MOST 1048576: true; the input reads as it did. -/
def rowNestedUptoRow : OpenClaim := { program := "ytmlecnomdamgnaagreat", sum := "bea0c2d4253a67bdec01211df498fd79c720a8222680cd78c967b765fbb75dde", func := "linchpin/linchpinlaw4.RowNested", spec := "rowNested", inPlace := ["internal/bytealg.IndexByteString", "internal/bytealg.IndexString", "internal/bytealg.abigen_runtime_cmpstring"], unfollowed := true, recurses := true, named := ["internal/bytealg.MaxLen"], apart := false, narrowed := true }
def RowNestedUptoSaid : Prop := rowNestedUptoRow.holds Tryz.pinned (OpenSpec.upto rowNestedSpec)

end Rows
end Go.Proofs.YtmlecnomdamgnaaGreat
