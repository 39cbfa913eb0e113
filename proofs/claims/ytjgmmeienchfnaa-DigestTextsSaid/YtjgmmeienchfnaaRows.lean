/-
  No cell of these rows narrows 'for every input' (looked for: loops, veiled, ifaces, maps, wideKeys, modest, calm, conditions, laid).
  DERIVED. THE GIVEN ROWS OF THIS SEAT. 6 by the template 'for every input the law returns true; each argument reads behind the call as it read before'; 0 by the template 'total and deterministic' (their statements: YtjgmmeienchfnaaTotals.lean).
  GIVEN WITH THE SEED: the statements are not yours to turn. If you find one false, say at which input.
  Laid BY PROGRAM, IN A SANDBOX (cutbox-rows.mjs): the forced cells as the released guide's own fill.sh prints them over the translation 5d01e0cb81bd78e6… (all of the seat's roots in one cut). By AI agents, Wed Nov 11 2026. No macro, syntax, notation, axiom, sorry.
-/
import Derived.Test.YtjgmmeienchfnaaChecked
import GoSem.Claim
import GoSem.ClaimJoined
import GoSem.ClaimMapViews
import Derived.JoinedTies
import Derived.KernelRfl
namespace Go.Proofs.Ytjgmmeienchfnaa
/- THE CELL 'sum', in the pinned program and in every row, IS THE sha256 OF THE DUMP (.gsa) THAT YtjgmmeienchfnaaProg.lean LOADS. Nothing in Lean hashes anything: it is a label: what it is worth is what the hold of that sum in a sandbox is worth. -/
noncomputable def Try.pinned : Pinned := { name := "ytjgmmeienchfnaa", sum := "5d01e0cb81bd78e666215090d986847a4d0e5cb6de204a13373617a4afce5ec0", checked := Try.checked }
namespace Rows
def none {H : Type} : Left H := { results := [], args := [] }

/-- 'linchpinlaw9.DigestSums': WHATEVER THE INPUT: true; the input reads as it did. -/
def digestSumsSpec : ChangeSpec := { name := "digestSums", fn := fun _ => fun
  | [d] => { results := [.lit (.bool true)], args := [d] }
  | _ => none }
def digestSumsRow : OpenClaim := { program := "ytjgmmeienchfnaa", sum := "5d01e0cb81bd78e666215090d986847a4d0e5cb6de204a13373617a4afce5ec0", func := "linchpin/linchpinlaw9.DigestSums", spec := "digestSums", inPlace := ["internal/bytealg.IndexByteString"], apart := false }
def DigestSumsSaid : Prop := digestSumsRow.holds Try.pinned (OpenSpec.ofChange digestSumsSpec)

/-- ITS FALSE NEIGHBOUR: 'it returns false'. Refute it at one input. -/
def digestSumsWrong : ChangeSpec := { name := "digestSums", fn := fun _ => fun
  | [d] => { results := [.lit (.bool false)], args := [d] }
  | _ => none }
def DigestSumsWrongFalsely : Prop := digestSumsRow.holds Try.pinned (OpenSpec.ofChange digestSumsWrong)

/-- 'linchpinlaw9.DigestTexts': WHATEVER THE INPUT: true; the input reads as it did. -/
def digestTextsSpec : ChangeSpec := { name := "digestTexts", fn := fun _ => fun
  | [d1, d2] => { results := [.lit (.bool true)], args := [d1, d2] }
  | _ => none }
def digestTextsRow : OpenClaim := { program := "ytjgmmeienchfnaa", sum := "5d01e0cb81bd78e666215090d986847a4d0e5cb6de204a13373617a4afce5ec0", func := "linchpin/linchpinlaw9.DigestTexts", spec := "digestTexts", inPlace := ["internal/bytealg.IndexByteString"], apart := false }
def DigestTextsSaid : Prop := digestTextsRow.holds Try.pinned (OpenSpec.ofChange digestTextsSpec)

/-- ITS FALSE NEIGHBOUR: 'it returns false'. Refute it at one input. -/
def digestTextsWrong : ChangeSpec := { name := "digestTexts", fn := fun _ => fun
  | [d1, d2] => { results := [.lit (.bool false)], args := [d1, d2] }
  | _ => none }
def DigestTextsWrongFalsely : Prop := digestTextsRow.holds Try.pinned (OpenSpec.ofChange digestTextsWrong)

/-- 'linchpinlaw9.DigestPairs': WHATEVER THE INPUT: true; the input reads as it did. -/
def digestPairsSpec : ChangeSpec := { name := "digestPairs", fn := fun _ => fun
  | [d1, d2, d3] => { results := [.lit (.bool true)], args := [d1, d2, d3] }
  | _ => none }
def digestPairsRow : OpenClaim := { program := "ytjgmmeienchfnaa", sum := "5d01e0cb81bd78e666215090d986847a4d0e5cb6de204a13373617a4afce5ec0", func := "linchpin/linchpinlaw9.DigestPairs", spec := "digestPairs", inPlace := ["internal/bytealg.IndexByteString"], apart := false }
def DigestPairsSaid : Prop := digestPairsRow.holds Try.pinned (OpenSpec.ofChange digestPairsSpec)

/-- ITS FALSE NEIGHBOUR: 'it returns false'. Refute it at one input. -/
def digestPairsWrong : ChangeSpec := { name := "digestPairs", fn := fun _ => fun
  | [d1, d2, d3] => { results := [.lit (.bool false)], args := [d1, d2, d3] }
  | _ => none }
def DigestPairsWrongFalsely : Prop := digestPairsRow.holds Try.pinned (OpenSpec.ofChange digestPairsWrong)

/-- 'linchpinlaw9.DigestOne': WHATEVER THE INPUT: true; the input reads as it did. -/
def digestOneSpec : ChangeSpec := { name := "digestOne", fn := fun _ => fun
  | [d1, d2, d3] => { results := [.lit (.bool true)], args := [d1, d2, d3] }
  | _ => none }
def digestOneRow : OpenClaim := { program := "ytjgmmeienchfnaa", sum := "5d01e0cb81bd78e666215090d986847a4d0e5cb6de204a13373617a4afce5ec0", func := "linchpin/linchpinlaw9.DigestOne", spec := "digestOne", inPlace := ["internal/bytealg.IndexByteString"], apart := false }
def DigestOneSaid : Prop := digestOneRow.holds Try.pinned (OpenSpec.ofChange digestOneSpec)

/-- ITS FALSE NEIGHBOUR: 'it returns false'. Refute it at one input. -/
def digestOneWrong : ChangeSpec := { name := "digestOne", fn := fun _ => fun
  | [d1, d2, d3] => { results := [.lit (.bool false)], args := [d1, d2, d3] }
  | _ => none }
def DigestOneWrongFalsely : Prop := digestOneRow.holds Try.pinned (OpenSpec.ofChange digestOneWrong)

/-- 'linchpinlaw9.DigestGrows': WHATEVER THE INPUT: true; the input reads as it did. -/
def digestGrowsSpec : ChangeSpec := { name := "digestGrows", fn := fun _ => fun
  | [d1, d2] => { results := [.lit (.bool true)], args := [d1, d2] }
  | _ => none }
def digestGrowsRow : OpenClaim := { program := "ytjgmmeienchfnaa", sum := "5d01e0cb81bd78e666215090d986847a4d0e5cb6de204a13373617a4afce5ec0", func := "linchpin/linchpinlaw9.DigestGrows", spec := "digestGrows", inPlace := ["internal/bytealg.IndexByteString"], apart := false }
def DigestGrowsSaid : Prop := digestGrowsRow.holds Try.pinned (OpenSpec.ofChange digestGrowsSpec)

/-- ITS FALSE NEIGHBOUR: 'it returns false'. Refute it at one input. -/
def digestGrowsWrong : ChangeSpec := { name := "digestGrows", fn := fun _ => fun
  | [d1, d2] => { results := [.lit (.bool false)], args := [d1, d2] }
  | _ => none }
def DigestGrowsWrongFalsely : Prop := digestGrowsRow.holds Try.pinned (OpenSpec.ofChange digestGrowsWrong)

/-- 'linchpinlaw9.DigestSwaps': WHATEVER THE INPUT: true; the input reads as it did. -/
def digestSwapsSpec : ChangeSpec := { name := "digestSwaps", fn := fun _ => fun
  | [d1, d2, d3] => { results := [.lit (.bool true)], args := [d1, d2, d3] }
  | _ => none }
def digestSwapsRow : OpenClaim := { program := "ytjgmmeienchfnaa", sum := "5d01e0cb81bd78e666215090d986847a4d0e5cb6de204a13373617a4afce5ec0", func := "linchpin/linchpinlaw9.DigestSwaps", spec := "digestSwaps", inPlace := ["internal/bytealg.IndexByteString"], apart := false }
def DigestSwapsSaid : Prop := digestSwapsRow.holds Try.pinned (OpenSpec.ofChange digestSwapsSpec)

/-- ITS FALSE NEIGHBOUR: 'it returns false'. Refute it at one input. -/
def digestSwapsWrong : ChangeSpec := { name := "digestSwaps", fn := fun _ => fun
  | [d1, d2, d3] => { results := [.lit (.bool false)], args := [d1, d2, d3] }
  | _ => none }
def DigestSwapsWrongFalsely : Prop := digestSwapsRow.holds Try.pinned (OpenSpec.ofChange digestSwapsWrong)

/- THE SECOND FORM. 'bulk': how many values and letters a reading holds, each counted each time it is reached (what is shared counts as often as it is met; a slice's spare places count too). A statement '..UptoSaid' is the law's where the arguments, and the package variables that the reading takes, are together of bulk at most 1048576: NARROWER than '..Said'. Prove '..Said' where nothing that the law and all that it calls make is longer than what came in: it says more and counts as full. Else prove '..UptoSaid'. A law counts once. -/
mutual
def uptoBulk {H : Type} : DataW H → Nat
  | .lit (.string bytes) => bytes.length + 1
  | .lit _ => 1
  | .nil => 1
  | .ptr d => uptoBulk d + 1
  | .slice elems spare => uptoBulkAll elems + uptoBulkAll spare + 1
  | .agg parts => uptoBulkAll parts + 1
  | .iface _ d => uptoBulk d + 1
  | .map entries => uptoBulkEntries entries + 1
  | .held _ => 1
def uptoBulkAll {H : Type} : List (DataW H) → Nat
  | [] => 0
  | d :: r => uptoBulk d + uptoBulkAll r
def uptoBulkEntries {H : Type} : List (Lit × DataW H) → Nat
  | [] => 0
  | x :: r => uptoBulkEntry x + uptoBulkEntries r
def uptoBulkEntry {H : Type} : Lit × DataW H → Nat
  | (.string bytes, d) => bytes.length + uptoBulk d + 1
  | (_, d) => uptoBulk d + 1
 end
def uptoSmall : (H : Type) → List (DataW H) → Bool := fun _ ds => decide (uptoBulkAll ds ≤ 1048576)
def OpenSpec.upto (s : _root_.Go.ChangeSpec) : _root_.Go.OpenSpec := { _root_.Go.OpenSpec.ofChange s with cond := some uptoSmall }

/-- 'linchpinlaw9.DigestSums', WHERE WHAT IT READS IS OF BULK AT MOST 1048576: true; the input reads as it did. -/
def digestSumsUptoRow : OpenClaim := { program := "ytjgmmeienchfnaa", sum := "5d01e0cb81bd78e666215090d986847a4d0e5cb6de204a13373617a4afce5ec0", func := "linchpin/linchpinlaw9.DigestSums", spec := "digestSums", inPlace := ["internal/bytealg.IndexByteString"], apart := false, narrowed := true }
def DigestSumsUptoSaid : Prop := digestSumsUptoRow.holds Try.pinned (OpenSpec.upto digestSumsSpec)

/-- 'linchpinlaw9.DigestTexts', WHERE WHAT IT READS IS OF BULK AT MOST 1048576: true; the input reads as it did. -/
def digestTextsUptoRow : OpenClaim := { program := "ytjgmmeienchfnaa", sum := "5d01e0cb81bd78e666215090d986847a4d0e5cb6de204a13373617a4afce5ec0", func := "linchpin/linchpinlaw9.DigestTexts", spec := "digestTexts", inPlace := ["internal/bytealg.IndexByteString"], apart := false, narrowed := true }
def DigestTextsUptoSaid : Prop := digestTextsUptoRow.holds Try.pinned (OpenSpec.upto digestTextsSpec)

/-- 'linchpinlaw9.DigestPairs', WHERE WHAT IT READS IS OF BULK AT MOST 1048576: true; the input reads as it did. -/
def digestPairsUptoRow : OpenClaim := { program := "ytjgmmeienchfnaa", sum := "5d01e0cb81bd78e666215090d986847a4d0e5cb6de204a13373617a4afce5ec0", func := "linchpin/linchpinlaw9.DigestPairs", spec := "digestPairs", inPlace := ["internal/bytealg.IndexByteString"], apart := false, narrowed := true }
def DigestPairsUptoSaid : Prop := digestPairsUptoRow.holds Try.pinned (OpenSpec.upto digestPairsSpec)

/-- 'linchpinlaw9.DigestOne', WHERE WHAT IT READS IS OF BULK AT MOST 1048576: true; the input reads as it did. -/
def digestOneUptoRow : OpenClaim := { program := "ytjgmmeienchfnaa", sum := "5d01e0cb81bd78e666215090d986847a4d0e5cb6de204a13373617a4afce5ec0", func := "linchpin/linchpinlaw9.DigestOne", spec := "digestOne", inPlace := ["internal/bytealg.IndexByteString"], apart := false, narrowed := true }
def DigestOneUptoSaid : Prop := digestOneUptoRow.holds Try.pinned (OpenSpec.upto digestOneSpec)

/-- 'linchpinlaw9.DigestGrows', WHERE WHAT IT READS IS OF BULK AT MOST 1048576: true; the input reads as it did. -/
def digestGrowsUptoRow : OpenClaim := { program := "ytjgmmeienchfnaa", sum := "5d01e0cb81bd78e666215090d986847a4d0e5cb6de204a13373617a4afce5ec0", func := "linchpin/linchpinlaw9.DigestGrows", spec := "digestGrows", inPlace := ["internal/bytealg.IndexByteString"], apart := false, narrowed := true }
def DigestGrowsUptoSaid : Prop := digestGrowsUptoRow.holds Try.pinned (OpenSpec.upto digestGrowsSpec)

/-- 'linchpinlaw9.DigestSwaps', WHERE WHAT IT READS IS OF BULK AT MOST 1048576: true; the input reads as it did. -/
def digestSwapsUptoRow : OpenClaim := { program := "ytjgmmeienchfnaa", sum := "5d01e0cb81bd78e666215090d986847a4d0e5cb6de204a13373617a4afce5ec0", func := "linchpin/linchpinlaw9.DigestSwaps", spec := "digestSwaps", inPlace := ["internal/bytealg.IndexByteString"], apart := false, narrowed := true }
def DigestSwapsUptoSaid : Prop := digestSwapsUptoRow.holds Try.pinned (OpenSpec.upto digestSwapsSpec)

end Rows
end Go.Proofs.Ytjgmmeienchfnaa
