/-
  No cell of these rows narrows 'for every input' (looked for: loops, veiled, ifaces, maps, wideKeys, modest, calm, conditions, laid).
  DERIVED. THE GIVEN ROWS OF THIS SEAT. 6 by the template 'for every input the law returns true; each argument reads behind the call as it read before'; 0 by the template 'total and deterministic' (their statements: YtndjdmbbndcohaaTotals.lean).
  GIVEN WITH THE SEED: the statements are not yours to turn. If you find one false, say at which input.
  Laid BY PROGRAM, IN A SANDBOX (cutbox-rows.mjs): the forced cells as the released guide's own fill.sh prints them over the translation 84b022819806dc96… (all of the seat's roots in one cut). By AI agents, Wed Nov 11 2026. No macro, syntax, notation, axiom, sorry.
-/
import Derived.Test.YtndjdmbbndcohaaChecked
import GoSem.Claim
import GoSem.ClaimJoined
import GoSem.ClaimMapViews
import Derived.JoinedTies
import Derived.KernelRfl
namespace Go.Proofs.Ytndjdmbbndcohaa
/- THE CELL 'sum', in the pinned program and in every row, IS THE sha256 OF THE DUMP (.gsa) THAT YtndjdmbbndcohaaProg.lean LOADS. Nothing in Lean hashes anything: it is a label: what it is worth is what the hold of that sum in a sandbox is worth. -/
noncomputable def Try.pinned : Pinned := { name := "ytndjdmbbndcohaa", sum := "84b022819806dc96ce9795792e6ef5a4bb097fcaea01cfe224783d823ad25962", checked := Try.checked }
namespace Rows
def none {H : Type} : Left H := { results := [], args := [] }

/-- 'linchpinlaw3.CutRaw': WHATEVER THE INPUT: true; the input reads as it did. -/
def cutRawSpec : ChangeSpec := { name := "cutRaw", fn := fun _ => fun
  | [d1, d2, d3] => { results := [.lit (.bool true)], args := [d1, d2, d3] }
  | _ => none }
def cutRawRow : OpenClaim := { program := "ytndjdmbbndcohaa", sum := "84b022819806dc96ce9795792e6ef5a4bb097fcaea01cfe224783d823ad25962", func := "linchpin/linchpinlaw3.CutRaw", spec := "cutRaw", inPlace := ["internal/bytealg.IndexByteString", "internal/bytealg.IndexString", "internal/bytealg.abigen_runtime_cmpstring"], unfollowed := true, recurses := true, named := ["internal/bytealg.MaxLen"], apart := false }
def CutRawSaid : Prop := cutRawRow.holds Try.pinned (OpenSpec.ofChange cutRawSpec)

/-- ITS FALSE NEIGHBOUR: 'it returns false'. Refute it at one input. -/
def cutRawWrong : ChangeSpec := { name := "cutRaw", fn := fun _ => fun
  | [d1, d2, d3] => { results := [.lit (.bool false)], args := [d1, d2, d3] }
  | _ => none }
def CutRawWrongFalsely : Prop := cutRawRow.holds Try.pinned (OpenSpec.ofChange cutRawWrong)

/-- 'linchpinlaw3.CutSpans': WHATEVER THE INPUT: true; the input reads as it did. -/
def cutSpansSpec : ChangeSpec := { name := "cutSpans", fn := fun _ => fun
  | [d1, d2] => { results := [.lit (.bool true)], args := [d1, d2] }
  | _ => none }
def cutSpansRow : OpenClaim := { program := "ytndjdmbbndcohaa", sum := "84b022819806dc96ce9795792e6ef5a4bb097fcaea01cfe224783d823ad25962", func := "linchpin/linchpinlaw3.CutSpans", spec := "cutSpans", inPlace := ["internal/bytealg.IndexByteString", "internal/bytealg.IndexString", "internal/bytealg.abigen_runtime_cmpstring"], unfollowed := true, recurses := true, named := ["internal/bytealg.MaxLen"], apart := false }
def CutSpansSaid : Prop := cutSpansRow.holds Try.pinned (OpenSpec.ofChange cutSpansSpec)

/-- ITS FALSE NEIGHBOUR: 'it returns false'. Refute it at one input. -/
def cutSpansWrong : ChangeSpec := { name := "cutSpans", fn := fun _ => fun
  | [d1, d2] => { results := [.lit (.bool false)], args := [d1, d2] }
  | _ => none }
def CutSpansWrongFalsely : Prop := cutSpansRow.holds Try.pinned (OpenSpec.ofChange cutSpansWrong)

/-- 'linchpinlaw3.CutOrder': WHATEVER THE INPUT: true; the input reads as it did. -/
def cutOrderSpec : ChangeSpec := { name := "cutOrder", fn := fun _ => fun
  | [d] => { results := [.lit (.bool true)], args := [d] }
  | _ => none }
def cutOrderRow : OpenClaim := { program := "ytndjdmbbndcohaa", sum := "84b022819806dc96ce9795792e6ef5a4bb097fcaea01cfe224783d823ad25962", func := "linchpin/linchpinlaw3.CutOrder", spec := "cutOrder", inPlace := ["internal/bytealg.IndexByteString", "internal/bytealg.IndexString", "internal/bytealg.abigen_runtime_cmpstring"], unfollowed := true, recurses := true, named := ["internal/bytealg.MaxLen"], apart := false }
def CutOrderSaid : Prop := cutOrderRow.holds Try.pinned (OpenSpec.ofChange cutOrderSpec)

/-- ITS FALSE NEIGHBOUR: 'it returns false'. Refute it at one input. -/
def cutOrderWrong : ChangeSpec := { name := "cutOrder", fn := fun _ => fun
  | [d] => { results := [.lit (.bool false)], args := [d] }
  | _ => none }
def CutOrderWrongFalsely : Prop := cutOrderRow.holds Try.pinned (OpenSpec.ofChange cutOrderWrong)

/-- 'linchpinlaw3.CutAhead': WHATEVER THE INPUT: true; the input reads as it did. -/
def cutAheadSpec : ChangeSpec := { name := "cutAhead", fn := fun _ => fun
  | [d] => { results := [.lit (.bool true)], args := [d] }
  | _ => none }
def cutAheadRow : OpenClaim := { program := "ytndjdmbbndcohaa", sum := "84b022819806dc96ce9795792e6ef5a4bb097fcaea01cfe224783d823ad25962", func := "linchpin/linchpinlaw3.CutAhead", spec := "cutAhead", inPlace := ["internal/bytealg.IndexByteString", "internal/bytealg.IndexString", "internal/bytealg.abigen_runtime_cmpstring"], unfollowed := true, recurses := true, named := ["internal/bytealg.MaxLen"], apart := false }
def CutAheadSaid : Prop := cutAheadRow.holds Try.pinned (OpenSpec.ofChange cutAheadSpec)

/-- ITS FALSE NEIGHBOUR: 'it returns false'. Refute it at one input. -/
def cutAheadWrong : ChangeSpec := { name := "cutAhead", fn := fun _ => fun
  | [d] => { results := [.lit (.bool false)], args := [d] }
  | _ => none }
def CutAheadWrongFalsely : Prop := cutAheadRow.holds Try.pinned (OpenSpec.ofChange cutAheadWrong)

/-- 'linchpinlaw3.CutBeside': WHATEVER THE INPUT: true; the input reads as it did. -/
def cutBesideSpec : ChangeSpec := { name := "cutBeside", fn := fun _ => fun
  | [d] => { results := [.lit (.bool true)], args := [d] }
  | _ => none }
def cutBesideRow : OpenClaim := { program := "ytndjdmbbndcohaa", sum := "84b022819806dc96ce9795792e6ef5a4bb097fcaea01cfe224783d823ad25962", func := "linchpin/linchpinlaw3.CutBeside", spec := "cutBeside", inPlace := ["internal/bytealg.IndexByteString", "internal/bytealg.IndexString", "internal/bytealg.abigen_runtime_cmpstring"], unfollowed := true, recurses := true, named := ["internal/bytealg.MaxLen"], apart := false }
def CutBesideSaid : Prop := cutBesideRow.holds Try.pinned (OpenSpec.ofChange cutBesideSpec)

/-- ITS FALSE NEIGHBOUR: 'it returns false'. Refute it at one input. -/
def cutBesideWrong : ChangeSpec := { name := "cutBeside", fn := fun _ => fun
  | [d] => { results := [.lit (.bool false)], args := [d] }
  | _ => none }
def CutBesideWrongFalsely : Prop := cutBesideRow.holds Try.pinned (OpenSpec.ofChange cutBesideWrong)

/-- 'linchpinlaw3.CutMeets': WHATEVER THE INPUT: true; the input reads as it did. -/
def cutMeetsSpec : ChangeSpec := { name := "cutMeets", fn := fun _ => fun
  | [d] => { results := [.lit (.bool true)], args := [d] }
  | _ => none }
def cutMeetsRow : OpenClaim := { program := "ytndjdmbbndcohaa", sum := "84b022819806dc96ce9795792e6ef5a4bb097fcaea01cfe224783d823ad25962", func := "linchpin/linchpinlaw3.CutMeets", spec := "cutMeets", inPlace := ["internal/bytealg.IndexByteString", "internal/bytealg.IndexString", "internal/bytealg.abigen_runtime_cmpstring"], unfollowed := true, recurses := true, named := ["internal/bytealg.MaxLen"], apart := false }
def CutMeetsSaid : Prop := cutMeetsRow.holds Try.pinned (OpenSpec.ofChange cutMeetsSpec)

/-- ITS FALSE NEIGHBOUR: 'it returns false'. Refute it at one input. -/
def cutMeetsWrong : ChangeSpec := { name := "cutMeets", fn := fun _ => fun
  | [d] => { results := [.lit (.bool false)], args := [d] }
  | _ => none }
def CutMeetsWrongFalsely : Prop := cutMeetsRow.holds Try.pinned (OpenSpec.ofChange cutMeetsWrong)

/- THE SECOND FORM. 'bulk': how many values and letters a reading holds, each counted each time it is reached (what is shared counts as often as it is met; a slice's spare places count too). A statement '..UptoSaid' is the law's where the arguments, and the package variables that the reading takes, are together of bulk at most 1048576: NARROWER than '..Said'. Prove '..Said' where nothing that the law and all that it calls make is longer than what came in: it says more and counts as full. Else prove '..UptoSaid'. A law counts once. -/
mutual
def uptoBulk {H : Type} : DataW H → Nat
  | .lit (.string bytes) => bytes.length + 1
  | .lit _ => 1
  | .nil => 1
  | .ptr d => uptoBulk d + 1
  | .slice elems spare => uptoBulkAll elems + uptoBulkAll spare + 1
  | .agg parts => uptoBulkAll parts + 1
  | .iface _ d => uptoBulk d + 1
  | .map entries => uptoBulkEntries entries + 1
  | .held _ => 1
def uptoBulkAll {H : Type} : List (DataW H) → Nat
  | [] => 0
  | d :: r => uptoBulk d + uptoBulkAll r
def uptoBulkEntries {H : Type} : List (Lit × DataW H) → Nat
  | [] => 0
  | x :: r => uptoBulkEntry x + uptoBulkEntries r
def uptoBulkEntry {H : Type} : Lit × DataW H → Nat
  | (.string bytes, d) => bytes.length + uptoBulk d + 1
  | (_, d) => uptoBulk d + 1
 end
def uptoSmall : (H : Type) → List (DataW H) → Bool := fun _ ds => decide (uptoBulkAll ds ≤ 1048576)
def OpenSpec.upto (s : _root_.Go.ChangeSpec) : _root_.Go.OpenSpec := { _root_.Go.OpenSpec.ofChange s with cond := some uptoSmall }

/-- 'linchpinlaw3.CutRaw', WHERE WHAT IT READS IS OF BULK AT MOST 1048576: true; the input reads as it did. -/
def cutRawUptoRow : OpenClaim := { program := "ytndjdmbbndcohaa", sum := "84b022819806dc96ce9795792e6ef5a4bb097fcaea01cfe224783d823ad25962", func := "linchpin/linchpinlaw3.CutRaw", spec := "cutRaw", inPlace := ["internal/bytealg.IndexByteString", "internal/bytealg.IndexString", "internal/bytealg.abigen_runtime_cmpstring"], unfollowed := true, recurses := true, named := ["internal/bytealg.MaxLen"], apart := false, narrowed := true }
def CutRawUptoSaid : Prop := cutRawUptoRow.holds Try.pinned (OpenSpec.upto cutRawSpec)

/-- 'linchpinlaw3.CutSpans', WHERE WHAT IT READS IS OF BULK AT MOST 1048576: true; the input reads as it did. -/
def cutSpansUptoRow : OpenClaim := { program := "ytndjdmbbndcohaa", sum := "84b022819806dc96ce9795792e6ef5a4bb097fcaea01cfe224783d823ad25962", func := "linchpin/linchpinlaw3.CutSpans", spec := "cutSpans", inPlace := ["internal/bytealg.IndexByteString", "internal/bytealg.IndexString", "internal/bytealg.abigen_runtime_cmpstring"], unfollowed := true, recurses := true, named := ["internal/bytealg.MaxLen"], apart := false, narrowed := true }
def CutSpansUptoSaid : Prop := cutSpansUptoRow.holds Try.pinned (OpenSpec.upto cutSpansSpec)

/-- 'linchpinlaw3.CutOrder', WHERE WHAT IT READS IS OF BULK AT MOST 1048576: true; the input reads as it did. -/
def cutOrderUptoRow : OpenClaim := { program := "ytndjdmbbndcohaa", sum := "84b022819806dc96ce9795792e6ef5a4bb097fcaea01cfe224783d823ad25962", func := "linchpin/linchpinlaw3.CutOrder", spec := "cutOrder", inPlace := ["internal/bytealg.IndexByteString", "internal/bytealg.IndexString", "internal/bytealg.abigen_runtime_cmpstring"], unfollowed := true, recurses := true, named := ["internal/bytealg.MaxLen"], apart := false, narrowed := true }
def CutOrderUptoSaid : Prop := cutOrderUptoRow.holds Try.pinned (OpenSpec.upto cutOrderSpec)

/-- 'linchpinlaw3.CutAhead', WHERE WHAT IT READS IS OF BULK AT MOST 1048576: true; the input reads as it did. -/
def cutAheadUptoRow : OpenClaim := { program := "ytndjdmbbndcohaa", sum := "84b022819806dc96ce9795792e6ef5a4bb097fcaea01cfe224783d823ad25962", func := "linchpin/linchpinlaw3.CutAhead", spec := "cutAhead", inPlace := ["internal/bytealg.IndexByteString", "internal/bytealg.IndexString", "internal/bytealg.abigen_runtime_cmpstring"], unfollowed := true, recurses := true, named := ["internal/bytealg.MaxLen"], apart := false, narrowed := true }
def CutAheadUptoSaid : Prop := cutAheadUptoRow.holds Try.pinned (OpenSpec.upto cutAheadSpec)

/-- 'linchpinlaw3.CutBeside', WHERE WHAT IT READS IS OF BULK AT MOST 1048576: true; the input reads as it did. -/
def cutBesideUptoRow : OpenClaim := { program := "ytndjdmbbndcohaa", sum := "84b022819806dc96ce9795792e6ef5a4bb097fcaea01cfe224783d823ad25962", func := "linchpin/linchpinlaw3.CutBeside", spec := "cutBeside", inPlace := ["internal/bytealg.IndexByteString", "internal/bytealg.IndexString", "internal/bytealg.abigen_runtime_cmpstring"], unfollowed := true, recurses := true, named := ["internal/bytealg.MaxLen"], apart := false, narrowed := true }
def CutBesideUptoSaid : Prop := cutBesideUptoRow.holds Try.pinned (OpenSpec.upto cutBesideSpec)

/-- 'linchpinlaw3.CutMeets', WHERE WHAT IT READS IS OF BULK AT MOST 1048576: true; the input reads as it did. -/
def cutMeetsUptoRow : OpenClaim := { program := "ytndjdmbbndcohaa", sum := "84b022819806dc96ce9795792e6ef5a4bb097fcaea01cfe224783d823ad25962", func := "linchpin/linchpinlaw3.CutMeets", spec := "cutMeets", inPlace := ["internal/bytealg.IndexByteString", "internal/bytealg.IndexString", "internal/bytealg.abigen_runtime_cmpstring"], unfollowed := true, recurses := true, named := ["internal/bytealg.MaxLen"], apart := false, narrowed := true }
def CutMeetsUptoSaid : Prop := cutMeetsUptoRow.holds Try.pinned (OpenSpec.upto cutMeetsSpec)

end Rows
end Go.Proofs.Ytndjdmbbndcohaa
