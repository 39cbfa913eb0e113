/-
  No cell of these rows narrows 'for every input' (looked for: loops, veiled, ifaces, maps, wideKeys, modest, calm, conditions, laid).
  DERIVED. THE GIVEN ROWS OF THIS SEAT. 7 by the template 'for every input the law returns true; each argument reads behind the call as it read before'; 0 by the template 'total and deterministic' (their statements: YtgeccfdofmnphaaGreatTotals.lean).
  GIVEN WITH THE SEED: the statements are not yours to turn. If you find one false, say at which input.
  Laid BY PROGRAM, IN A SANDBOX (cutbox-rows.mjs): the forced cells as the released guide's own fill.sh prints them over the translation f99b8b96150271d1… (all of the seat's roots in one cut). By AI agents, Wed Nov 11 2026. No macro, syntax, notation, axiom, sorry.
-/
import Derived.Test.YtgeccfdofmnphaaGreatChecked
import GoSem.Claim
import GoSem.ClaimJoined
import GoSem.ClaimMapViews
import Derived.JoinedTies
import Derived.KernelRfl
namespace Go.Proofs.YtgeccfdofmnphaaGreat
/- THE CELL 'sum', in the pinned program and in every row, IS THE sha256 OF THE DUMP (.gsa) THAT YtgeccfdofmnphaaGreatProg.lean LOADS. Nothing in Lean hashes anything: it is a label: what it is worth is what the hold of that sum in a sandbox is worth. -/
noncomputable def Tryz.pinned : Pinned := { name := "ytgeccfdofmnphaagreat", sum := "f99b8b96150271d1d8d7bf9fffaa591c3b408b46f0aec188522eae76e4eb8d3d", checked := Tryz.checked }
namespace Rows
def none {H : Type} : Left H := { results := [], args := [] }

/-- 'linchpinlaw5.SetRaw': WHATEVER THE INPUT: true; the input reads as it did. -/
def setRawSpec : ChangeSpec := { name := "setRaw", fn := fun _ => fun
  | [d1, d2] => { results := [.lit (.bool true)], args := [d1, d2] }
  | _ => none }
def setRawRow : OpenClaim := { program := "ytgeccfdofmnphaagreat", sum := "f99b8b96150271d1d8d7bf9fffaa591c3b408b46f0aec188522eae76e4eb8d3d", func := "linchpin/linchpinlaw5.SetRaw", spec := "setRaw", inPlace := ["internal/bytealg.IndexByteString", "internal/bytealg.IndexString", "internal/bytealg.abigen_runtime_cmpstring"], unfollowed := true, recurses := true, named := ["internal/bytealg.MaxLen"], apart := false }
def SetRawSaid : Prop := setRawRow.holds Tryz.pinned (OpenSpec.ofChange setRawSpec)

/-- ITS FALSE NEIGHBOUR: 'it returns false'. Refute it at one input. -/
def setRawWrong : ChangeSpec := { name := "setRaw", fn := fun _ => fun
  | [d1, d2] => { results := [.lit (.bool false)], args := [d1, d2] }
  | _ => none }
def SetRawWrongFalsely : Prop := setRawRow.holds Tryz.pinned (OpenSpec.ofChange setRawWrong)

/-- 'linchpinlaw5.SetAlgebra': WHATEVER THE INPUT: true; the input reads as it did. -/
def setAlgebraSpec : ChangeSpec := { name := "setAlgebra", fn := fun _ => fun
  | [d1, d2] => { results := [.lit (.bool true)], args := [d1, d2] }
  | _ => none }
def setAlgebraRow : OpenClaim := { program := "ytgeccfdofmnphaagreat", sum := "f99b8b96150271d1d8d7bf9fffaa591c3b408b46f0aec188522eae76e4eb8d3d", func := "linchpin/linchpinlaw5.SetAlgebra", spec := "setAlgebra", inPlace := ["internal/bytealg.IndexByteString", "internal/bytealg.IndexString", "internal/bytealg.abigen_runtime_cmpstring"], unfollowed := true, recurses := true, named := ["internal/bytealg.MaxLen"], apart := false }
def SetAlgebraSaid : Prop := setAlgebraRow.holds Tryz.pinned (OpenSpec.ofChange setAlgebraSpec)

/-- ITS FALSE NEIGHBOUR: 'it returns false'. Refute it at one input. -/
def setAlgebraWrong : ChangeSpec := { name := "setAlgebra", fn := fun _ => fun
  | [d1, d2] => { results := [.lit (.bool false)], args := [d1, d2] }
  | _ => none }
def SetAlgebraWrongFalsely : Prop := setAlgebraRow.holds Tryz.pinned (OpenSpec.ofChange setAlgebraWrong)

/-- 'linchpinlaw5.SetMeans': WHATEVER THE INPUT: true; the input reads as it did. -/
def setMeansSpec : ChangeSpec := { name := "setMeans", fn := fun _ => fun
  | [d1, d2] => { results := [.lit (.bool true)], args := [d1, d2] }
  | _ => none }
def setMeansRow : OpenClaim := { program := "ytgeccfdofmnphaagreat", sum := "f99b8b96150271d1d8d7bf9fffaa591c3b408b46f0aec188522eae76e4eb8d3d", func := "linchpin/linchpinlaw5.SetMeans", spec := "setMeans", inPlace := ["internal/bytealg.IndexByteString", "internal/bytealg.IndexString", "internal/bytealg.abigen_runtime_cmpstring"], unfollowed := true, recurses := true, named := ["internal/bytealg.MaxLen"], apart := false }
def SetMeansSaid : Prop := setMeansRow.holds Tryz.pinned (OpenSpec.ofChange setMeansSpec)

/-- ITS FALSE NEIGHBOUR: 'it returns false'. Refute it at one input. -/
def setMeansWrong : ChangeSpec := { name := "setMeans", fn := fun _ => fun
  | [d1, d2] => { results := [.lit (.bool false)], args := [d1, d2] }
  | _ => none }
def SetMeansWrongFalsely : Prop := setMeansRow.holds Tryz.pinned (OpenSpec.ofChange setMeansWrong)

/-- 'linchpinlaw5.SetMakes': WHATEVER THE INPUT: true; the input reads as it did. -/
def setMakesSpec : ChangeSpec := { name := "setMakes", fn := fun _ => fun
  | [d] => { results := [.lit (.bool true)], args := [d] }
  | _ => none }
def setMakesRow : OpenClaim := { program := "ytgeccfdofmnphaagreat", sum := "f99b8b96150271d1d8d7bf9fffaa591c3b408b46f0aec188522eae76e4eb8d3d", func := "linchpin/linchpinlaw5.SetMakes", spec := "setMakes", inPlace := ["internal/bytealg.IndexByteString", "internal/bytealg.IndexString", "internal/bytealg.abigen_runtime_cmpstring"], unfollowed := true, recurses := true, named := ["internal/bytealg.MaxLen"], apart := false }
def SetMakesSaid : Prop := setMakesRow.holds Tryz.pinned (OpenSpec.ofChange setMakesSpec)

/-- ITS FALSE NEIGHBOUR: 'it returns false'. Refute it at one input. -/
def setMakesWrong : ChangeSpec := { name := "setMakes", fn := fun _ => fun
  | [d] => { results := [.lit (.bool false)], args := [d] }
  | _ => none }
def SetMakesWrongFalsely : Prop := setMakesRow.holds Tryz.pinned (OpenSpec.ofChange setMakesWrong)

/-- 'linchpinlaw5.SetOne': WHATEVER THE INPUT: true; the input reads as it did. -/
def setOneSpec : ChangeSpec := { name := "setOne", fn := fun _ => fun
  | [d1, d2] => { results := [.lit (.bool true)], args := [d1, d2] }
  | _ => none }
def setOneRow : OpenClaim := { program := "ytgeccfdofmnphaagreat", sum := "f99b8b96150271d1d8d7bf9fffaa591c3b408b46f0aec188522eae76e4eb8d3d", func := "linchpin/linchpinlaw5.SetOne", spec := "setOne", inPlace := ["internal/bytealg.IndexByteString", "internal/bytealg.IndexString", "internal/bytealg.abigen_runtime_cmpstring"], unfollowed := true, recurses := true, named := ["internal/bytealg.MaxLen"], apart := false }
def SetOneSaid : Prop := setOneRow.holds Tryz.pinned (OpenSpec.ofChange setOneSpec)

/-- ITS FALSE NEIGHBOUR: 'it returns false'. Refute it at one input. -/
def setOneWrong : ChangeSpec := { name := "setOne", fn := fun _ => fun
  | [d1, d2] => { results := [.lit (.bool false)], args := [d1, d2] }
  | _ => none }
def SetOneWrongFalsely : Prop := setOneRow.holds Tryz.pinned (OpenSpec.ofChange setOneWrong)

/-- 'linchpinlaw5.SetLaws': WHATEVER THE INPUT: true; the input reads as it did. -/
def setLawsSpec : ChangeSpec := { name := "setLaws", fn := fun _ => fun
  | [d1, d2] => { results := [.lit (.bool true)], args := [d1, d2] }
  | _ => none }
def setLawsRow : OpenClaim := { program := "ytgeccfdofmnphaagreat", sum := "f99b8b96150271d1d8d7bf9fffaa591c3b408b46f0aec188522eae76e4eb8d3d", func := "linchpin/linchpinlaw5.SetLaws", spec := "setLaws", inPlace := ["internal/bytealg.IndexByteString", "internal/bytealg.IndexString", "internal/bytealg.abigen_runtime_cmpstring"], unfollowed := true, recurses := true, named := ["internal/bytealg.MaxLen"], apart := false }
def SetLawsSaid : Prop := setLawsRow.holds Tryz.pinned (OpenSpec.ofChange setLawsSpec)

/-- ITS FALSE NEIGHBOUR: 'it returns false'. Refute it at one input. -/
def setLawsWrong : ChangeSpec := { name := "setLaws", fn := fun _ => fun
  | [d1, d2] => { results := [.lit (.bool false)], args := [d1, d2] }
  | _ => none }
def SetLawsWrongFalsely : Prop := setLawsRow.holds Tryz.pinned (OpenSpec.ofChange setLawsWrong)

/-- 'linchpinlaw5.SetEnds': WHATEVER THE INPUT: true; the input reads as it did. -/
def setEndsSpec : ChangeSpec := { name := "setEnds", fn := fun _ => fun
  | [d] => { results := [.lit (.bool true)], args := [d] }
  | _ => none }
def setEndsRow : OpenClaim := { program := "ytgeccfdofmnphaagreat", sum := "f99b8b96150271d1d8d7bf9fffaa591c3b408b46f0aec188522eae76e4eb8d3d", func := "linchpin/linchpinlaw5.SetEnds", spec := "setEnds", inPlace := ["internal/bytealg.IndexByteString", "internal/bytealg.IndexString", "internal/bytealg.abigen_runtime_cmpstring"], unfollowed := true, recurses := true, named := ["internal/bytealg.MaxLen"], apart := false }
def SetEndsSaid : Prop := setEndsRow.holds Tryz.pinned (OpenSpec.ofChange setEndsSpec)

/-- ITS FALSE NEIGHBOUR: 'it returns false'. Refute it at one input. -/
def setEndsWrong : ChangeSpec := { name := "setEnds", fn := fun _ => fun
  | [d] => { results := [.lit (.bool false)], args := [d] }
  | _ => none }
def SetEndsWrongFalsely : Prop := setEndsRow.holds Tryz.pinned (OpenSpec.ofChange setEndsWrong)

/- THE SECOND FORM. 'bulk': how many values and letters a reading holds, each counted each time it is reached (what is shared counts as often as it is met; a slice's spare places count too). A statement '..UptoSaid' is the law's where the arguments, and the package variables that the reading takes, are together of bulk at most 1048576: NARROWER than '..Said'. Prove '..Said' where nothing that the law and all that it calls make is longer than what came in: it says more and counts as full. Else prove '..UptoSaid'. A law counts once. -/
mutual
def uptoBulk {H : Type} : DataW H → Nat
  | .lit (.string bytes) => bytes.length + 1
  | .lit _ => 1
  | .nil => 1
  | .ptr d => uptoBulk d + 1
  | .slice elems spare => uptoBulkAll elems + uptoBulkAll spare + 1
  | .agg parts => uptoBulkAll parts + 1
  | .iface _ d => uptoBulk d + 1
  | .map entries => uptoBulkEntries entries + 1
  | .held _ => 1
def uptoBulkAll {H : Type} : List (DataW H) → Nat
  | [] => 0
  | d :: r => uptoBulk d + uptoBulkAll r
def uptoBulkEntries {H : Type} : List (Lit × DataW H) → Nat
  | [] => 0
  | x :: r => uptoBulkEntry x + uptoBulkEntries r
def uptoBulkEntry {H : Type} : Lit × DataW H → Nat
  | (.string bytes, d) => bytes.length + uptoBulk d + 1
  | (_, d) => uptoBulk d + 1
 end
def uptoSmall : (H : Type) → List (DataW H) → Bool := fun _ ds => decide (uptoBulkAll ds ≤ 1048576)
def OpenSpec.upto (s : _root_.Go.ChangeSpec) : _root_.Go.OpenSpec := { _root_.Go.OpenSpec.ofChange s with cond := some uptoSmall }

/-- 'linchpinlaw5.SetRaw', WHERE WHAT IT READS IS OF BULK AT MOST 1048576: true; the input reads as it did. -/
def setRawUptoRow : OpenClaim := { program := "ytgeccfdofmnphaagreat", sum := "f99b8b96150271d1d8d7bf9fffaa591c3b408b46f0aec188522eae76e4eb8d3d", func := "linchpin/linchpinlaw5.SetRaw", spec := "setRaw", inPlace := ["internal/bytealg.IndexByteString", "internal/bytealg.IndexString", "internal/bytealg.abigen_runtime_cmpstring"], unfollowed := true, recurses := true, named := ["internal/bytealg.MaxLen"], apart := false, narrowed := true }
def SetRawUptoSaid : Prop := setRawUptoRow.holds Tryz.pinned (OpenSpec.upto setRawSpec)

/-- 'linchpinlaw5.SetAlgebra', WHERE WHAT IT READS IS OF BULK AT MOST 1048576: true; the input reads as it did. -/
def setAlgebraUptoRow : OpenClaim := { program := "ytgeccfdofmnphaagreat", sum := "f99b8b96150271d1d8d7bf9fffaa591c3b408b46f0aec188522eae76e4eb8d3d", func := "linchpin/linchpinlaw5.SetAlgebra", spec := "setAlgebra", inPlace := ["internal/bytealg.IndexByteString", "internal/bytealg.IndexString", "internal/bytealg.abigen_runtime_cmpstring"], unfollowed := true, recurses := true, named := ["internal/bytealg.MaxLen"], apart := false, narrowed := true }
def SetAlgebraUptoSaid : Prop := setAlgebraUptoRow.holds Tryz.pinned (OpenSpec.upto setAlgebraSpec)

/-- 'linchpinlaw5.SetMeans', WHERE WHAT IT READS IS OF BULK AT MOST 1048576: true; the input reads as it did. -/
def setMeansUptoRow : OpenClaim := { program := "ytgeccfdofmnphaagreat", sum := "f99b8b96150271d1d8d7bf9fffaa591c3b408b46f0aec188522eae76e4eb8d3d", func := "linchpin/linchpinlaw5.SetMeans", spec := "setMeans", inPlace := ["internal/bytealg.IndexByteString", "internal/bytealg.IndexString", "internal/bytealg.abigen_runtime_cmpstring"], unfollowed := true, recurses := true, named := ["internal/bytealg.MaxLen"], apart := false, narrowed := true }
def SetMeansUptoSaid : Prop := setMeansUptoRow.holds Tryz.pinned (OpenSpec.upto setMeansSpec)

/-- 'linchpinlaw5.SetMakes', WHERE WHAT IT READS IS OF BULK AT MOST 1048576: true; the input reads as it did. -/
def setMakesUptoRow : OpenClaim := { program := "ytgeccfdofmnphaagreat", sum := "f99b8b96150271d1d8d7bf9fffaa591c3b408b46f0aec188522eae76e4eb8d3d", func := "linchpin/linchpinlaw5.SetMakes", spec := "setMakes", inPlace := ["internal/bytealg.IndexByteString", "internal/bytealg.IndexString", "internal/bytealg.abigen_runtime_cmpstring"], unfollowed := true, recurses := true, named := ["internal/bytealg.MaxLen"], apart := false, narrowed := true }
def SetMakesUptoSaid : Prop := setMakesUptoRow.holds Tryz.pinned (OpenSpec.upto setMakesSpec)

/-- 'linchpinlaw5.SetOne', WHERE WHAT IT READS IS OF BULK AT MOST 1048576: true; the input reads as it did. -/
def setOneUptoRow : OpenClaim := { program := "ytgeccfdofmnphaagreat", sum := "f99b8b96150271d1d8d7bf9fffaa591c3b408b46f0aec188522eae76e4eb8d3d", func := "linchpin/linchpinlaw5.SetOne", spec := "setOne", inPlace := ["internal/bytealg.IndexByteString", "internal/bytealg.IndexString", "internal/bytealg.abigen_runtime_cmpstring"], unfollowed := true, recurses := true, named := ["internal/bytealg.MaxLen"], apart := false, narrowed := true }
def SetOneUptoSaid : Prop := setOneUptoRow.holds Tryz.pinned (OpenSpec.upto setOneSpec)

/-- 'linchpinlaw5.SetLaws', WHERE WHAT IT READS IS OF BULK AT MOST 1048576: true; the input reads as it did. -/
def setLawsUptoRow : OpenClaim := { program := "ytgeccfdofmnphaagreat", sum := "f99b8b96150271d1d8d7bf9fffaa591c3b408b46f0aec188522eae76e4eb8d3d", func := "linchpin/linchpinlaw5.SetLaws", spec := "setLaws", inPlace := ["internal/bytealg.IndexByteString", "internal/bytealg.IndexString", "internal/bytealg.abigen_runtime_cmpstring"], unfollowed := true, recurses := true, named := ["internal/bytealg.MaxLen"], apart := false, narrowed := true }
def SetLawsUptoSaid : Prop := setLawsUptoRow.holds Tryz.pinned (OpenSpec.upto setLawsSpec)

/-- 'linchpinlaw5.SetEnds', WHERE WHAT IT READS IS OF BULK AT MOST 1048576: true; the input reads as it did. -/
def setEndsUptoRow : OpenClaim := { program := "ytgeccfdofmnphaagreat", sum := "f99b8b96150271d1d8d7bf9fffaa591c3b408b46f0aec188522eae76e4eb8d3d", func := "linchpin/linchpinlaw5.SetEnds", spec := "setEnds", inPlace := ["internal/bytealg.IndexByteString", "internal/bytealg.IndexString", "internal/bytealg.abigen_runtime_cmpstring"], unfollowed := true, recurses := true, named := ["internal/bytealg.MaxLen"], apart := false, narrowed := true }
def SetEndsUptoSaid : Prop := setEndsUptoRow.holds Tryz.pinned (OpenSpec.upto setEndsSpec)

end Rows
end Go.Proofs.YtgeccfdofmnphaaGreat
