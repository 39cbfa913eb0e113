/-
  No cell of these rows narrows 'for every input' (looked for: loops, veiled, ifaces, maps, wideKeys, modest, calm, conditions, laid).
  DERIVED. THE GIVEN ROWS OF THIS SEAT. 6 by the template 'for every input the law returns true; each argument reads behind the call as it read before'; 0 by the template 'total and deterministic' (their statements: YtglbfknmeojfkaaTotals.lean).
  GIVEN WITH THE SEED: the statements are not yours to turn. If you find one false, say at which input.
  Laid BY PROGRAM, IN A SANDBOX (cutbox-rows.mjs): the forced cells as the released guide's own fill.sh prints them over the translation 918b551340e761d1… (all of the seat's roots in one cut). By AI agents, Wed Nov 11 2026. No macro, syntax, notation, axiom, sorry.
-/
import Derived.Test.YtglbfknmeojfkaaChecked
import GoSem.Claim
import GoSem.ClaimJoined
import GoSem.ClaimMapViews
import Derived.JoinedTies
import Derived.KernelRfl
namespace Go.Proofs.Ytglbfknmeojfkaa
/- THE CELL 'sum', in the pinned program and in every row, IS THE sha256 OF THE DUMP (.gsa) THAT YtglbfknmeojfkaaProg.lean LOADS. Nothing in Lean hashes anything: it is a label: what it is worth is what the hold of that sum in a sandbox is worth. -/
noncomputable def Try.pinned : Pinned := { name := "ytglbfknmeojfkaa", sum := "918b551340e761d164b80f35fae5bbce00b2b887d1ffe49f62357c72a6ae013c", checked := Try.checked }
namespace Rows
def none {H : Type} : Left H := { results := [], args := [] }

/-- 'linchpinlaw11.FeatureItems': WHATEVER THE INPUT: true; the input reads as it did. -/
def featureItemsSpec : ChangeSpec := { name := "featureItems", fn := fun _ => fun
  | [d] => { results := [.lit (.bool true)], args := [d] }
  | _ => none }
def featureItemsRow : OpenClaim := { program := "ytglbfknmeojfkaa", sum := "918b551340e761d164b80f35fae5bbce00b2b887d1ffe49f62357c72a6ae013c", func := "linchpin/linchpinlaw11.FeatureItems", spec := "featureItems", inPlace := ["internal/bytealg.IndexByteString", "internal/bytealg.IndexString"], unfollowed := true, recurses := true, named := ["internal/bytealg.MaxLen"], apart := false }
def FeatureItemsSaid : Prop := featureItemsRow.holds Try.pinned (OpenSpec.ofChange featureItemsSpec)

/-- ITS FALSE NEIGHBOUR: 'it returns false'. Refute it at one input. -/
def featureItemsWrong : ChangeSpec := { name := "featureItems", fn := fun _ => fun
  | [d] => { results := [.lit (.bool false)], args := [d] }
  | _ => none }
def FeatureItemsWrongFalsely : Prop := featureItemsRow.holds Try.pinned (OpenSpec.ofChange featureItemsWrong)

/-- 'linchpinlaw11.FeatureRaw': WHATEVER THE INPUT: true; the input reads as it did. -/
def featureRawSpec : ChangeSpec := { name := "featureRaw", fn := fun _ => fun
  | [d1, d2] => { results := [.lit (.bool true)], args := [d1, d2] }
  | _ => none }
def featureRawRow : OpenClaim := { program := "ytglbfknmeojfkaa", sum := "918b551340e761d164b80f35fae5bbce00b2b887d1ffe49f62357c72a6ae013c", func := "linchpin/linchpinlaw11.FeatureRaw", spec := "featureRaw", inPlace := ["internal/bytealg.IndexByteString", "internal/bytealg.IndexString"], unfollowed := true, recurses := true, named := ["internal/bytealg.MaxLen"], apart := false }
def FeatureRawSaid : Prop := featureRawRow.holds Try.pinned (OpenSpec.ofChange featureRawSpec)

/-- ITS FALSE NEIGHBOUR: 'it returns false'. Refute it at one input. -/
def featureRawWrong : ChangeSpec := { name := "featureRaw", fn := fun _ => fun
  | [d1, d2] => { results := [.lit (.bool false)], args := [d1, d2] }
  | _ => none }
def FeatureRawWrongFalsely : Prop := featureRawRow.holds Try.pinned (OpenSpec.ofChange featureRawWrong)

/-- 'linchpinlaw11.FeatureCloses': WHATEVER THE INPUT: true; the input reads as it did. -/
def featureClosesSpec : ChangeSpec := { name := "featureCloses", fn := fun _ => fun
  | [d1, d2] => { results := [.lit (.bool true)], args := [d1, d2] }
  | _ => none }
def featureClosesRow : OpenClaim := { program := "ytglbfknmeojfkaa", sum := "918b551340e761d164b80f35fae5bbce00b2b887d1ffe49f62357c72a6ae013c", func := "linchpin/linchpinlaw11.FeatureCloses", spec := "featureCloses", inPlace := ["internal/bytealg.IndexByteString", "internal/bytealg.IndexString"], unfollowed := true, recurses := true, named := ["internal/bytealg.MaxLen"], apart := false }
def FeatureClosesSaid : Prop := featureClosesRow.holds Try.pinned (OpenSpec.ofChange featureClosesSpec)

/-- ITS FALSE NEIGHBOUR: 'it returns false'. Refute it at one input. -/
def featureClosesWrong : ChangeSpec := { name := "featureCloses", fn := fun _ => fun
  | [d1, d2] => { results := [.lit (.bool false)], args := [d1, d2] }
  | _ => none }
def FeatureClosesWrongFalsely : Prop := featureClosesRow.holds Try.pinned (OpenSpec.ofChange featureClosesWrong)

/-- 'linchpinlaw11.FeatureTwice': WHATEVER THE INPUT: true; the input reads as it did. -/
def featureTwiceSpec : ChangeSpec := { name := "featureTwice", fn := fun _ => fun
  | [d1, d2] => { results := [.lit (.bool true)], args := [d1, d2] }
  | _ => none }
def featureTwiceRow : OpenClaim := { program := "ytglbfknmeojfkaa", sum := "918b551340e761d164b80f35fae5bbce00b2b887d1ffe49f62357c72a6ae013c", func := "linchpin/linchpinlaw11.FeatureTwice", spec := "featureTwice", inPlace := ["internal/bytealg.IndexByteString", "internal/bytealg.IndexString"], unfollowed := true, recurses := true, named := ["internal/bytealg.MaxLen"], apart := false }
def FeatureTwiceSaid : Prop := featureTwiceRow.holds Try.pinned (OpenSpec.ofChange featureTwiceSpec)

/-- ITS FALSE NEIGHBOUR: 'it returns false'. Refute it at one input. -/
def featureTwiceWrong : ChangeSpec := { name := "featureTwice", fn := fun _ => fun
  | [d1, d2] => { results := [.lit (.bool false)], args := [d1, d2] }
  | _ => none }
def FeatureTwiceWrongFalsely : Prop := featureTwiceRow.holds Try.pinned (OpenSpec.ofChange featureTwiceWrong)

/-- 'linchpinlaw11.FeatureMore': WHATEVER THE INPUT: true; the input reads as it did. -/
def featureMoreSpec : ChangeSpec := { name := "featureMore", fn := fun _ => fun
  | [d1, d2, d3] => { results := [.lit (.bool true)], args := [d1, d2, d3] }
  | _ => none }
def featureMoreRow : OpenClaim := { program := "ytglbfknmeojfkaa", sum := "918b551340e761d164b80f35fae5bbce00b2b887d1ffe49f62357c72a6ae013c", func := "linchpin/linchpinlaw11.FeatureMore", spec := "featureMore", inPlace := ["internal/bytealg.IndexByteString", "internal/bytealg.IndexString"], unfollowed := true, recurses := true, named := ["internal/bytealg.MaxLen"], apart := false }
def FeatureMoreSaid : Prop := featureMoreRow.holds Try.pinned (OpenSpec.ofChange featureMoreSpec)

/-- ITS FALSE NEIGHBOUR: 'it returns false'. Refute it at one input. -/
def featureMoreWrong : ChangeSpec := { name := "featureMore", fn := fun _ => fun
  | [d1, d2, d3] => { results := [.lit (.bool false)], args := [d1, d2, d3] }
  | _ => none }
def FeatureMoreWrongFalsely : Prop := featureMoreRow.holds Try.pinned (OpenSpec.ofChange featureMoreWrong)

/-- 'linchpinlaw11.FeatureLeast': WHATEVER THE INPUT: true; the input reads as it did. -/
def featureLeastSpec : ChangeSpec := { name := "featureLeast", fn := fun _ => fun
  | [d1, d2] => { results := [.lit (.bool true)], args := [d1, d2] }
  | _ => none }
def featureLeastRow : OpenClaim := { program := "ytglbfknmeojfkaa", sum := "918b551340e761d164b80f35fae5bbce00b2b887d1ffe49f62357c72a6ae013c", func := "linchpin/linchpinlaw11.FeatureLeast", spec := "featureLeast", inPlace := ["internal/bytealg.IndexByteString", "internal/bytealg.IndexString"], unfollowed := true, recurses := true, named := ["internal/bytealg.MaxLen"], apart := false }
def FeatureLeastSaid : Prop := featureLeastRow.holds Try.pinned (OpenSpec.ofChange featureLeastSpec)

/-- ITS FALSE NEIGHBOUR: 'it returns false'. Refute it at one input. -/
def featureLeastWrong : ChangeSpec := { name := "featureLeast", fn := fun _ => fun
  | [d1, d2] => { results := [.lit (.bool false)], args := [d1, d2] }
  | _ => none }
def FeatureLeastWrongFalsely : Prop := featureLeastRow.holds Try.pinned (OpenSpec.ofChange featureLeastWrong)

/- THE SECOND FORM. 'bulk': how many values and letters a reading holds, each counted each time it is reached (what is shared counts as often as it is met; a slice's spare places count too). A statement '..UptoSaid' is the law's where the arguments, and the package variables that the reading takes, are together of bulk at most 1048576: NARROWER than '..Said'. Prove '..Said' where nothing that the law and all that it calls make is longer than what came in: it says more and counts as full. Else prove '..UptoSaid'. A law counts once. -/
mutual
def uptoBulk {H : Type} : DataW H → Nat
  | .lit (.string bytes) => bytes.length + 1
  | .lit _ => 1
  | .nil => 1
  | .ptr d => uptoBulk d + 1
  | .slice elems spare => uptoBulkAll elems + uptoBulkAll spare + 1
  | .agg parts => uptoBulkAll parts + 1
  | .iface _ d => uptoBulk d + 1
  | .map entries => uptoBulkEntries entries + 1
  | .held _ => 1
def uptoBulkAll {H : Type} : List (DataW H) → Nat
  | [] => 0
  | d :: r => uptoBulk d + uptoBulkAll r
def uptoBulkEntries {H : Type} : List (Lit × DataW H) → Nat
  | [] => 0
  | x :: r => uptoBulkEntry x + uptoBulkEntries r
def uptoBulkEntry {H : Type} : Lit × DataW H → Nat
  | (.string bytes, d) => bytes.length + uptoBulk d + 1
  | (_, d) => uptoBulk d + 1
 end
def uptoSmall : (H : Type) → List (DataW H) → Bool := fun _ ds => decide (uptoBulkAll ds ≤ 1048576)
def OpenSpec.upto (s : _root_.Go.ChangeSpec) : _root_.Go.OpenSpec := { _root_.Go.OpenSpec.ofChange s with cond := some uptoSmall }

/-- 'linchpinlaw11.FeatureItems', WHERE WHAT IT READS IS OF BULK AT MOST 1048576: true; the input reads as it did. -/
def featureItemsUptoRow : OpenClaim := { program := "ytglbfknmeojfkaa", sum := "918b551340e761d164b80f35fae5bbce00b2b887d1ffe49f62357c72a6ae013c", func := "linchpin/linchpinlaw11.FeatureItems", spec := "featureItems", inPlace := ["internal/bytealg.IndexByteString", "internal/bytealg.IndexString"], unfollowed := true, recurses := true, named := ["internal/bytealg.MaxLen"], apart := false, narrowed := true }
def FeatureItemsUptoSaid : Prop := featureItemsUptoRow.holds Try.pinned (OpenSpec.upto featureItemsSpec)

/-- 'linchpinlaw11.FeatureRaw', WHERE WHAT IT READS IS OF BULK AT MOST 1048576: true; the input reads as it did. -/
def featureRawUptoRow : OpenClaim := { program := "ytglbfknmeojfkaa", sum := "918b551340e761d164b80f35fae5bbce00b2b887d1ffe49f62357c72a6ae013c", func := "linchpin/linchpinlaw11.FeatureRaw", spec := "featureRaw", inPlace := ["internal/bytealg.IndexByteString", "internal/bytealg.IndexString"], unfollowed := true, recurses := true, named := ["internal/bytealg.MaxLen"], apart := false, narrowed := true }
def FeatureRawUptoSaid : Prop := featureRawUptoRow.holds Try.pinned (OpenSpec.upto featureRawSpec)

/-- 'linchpinlaw11.FeatureCloses', WHERE WHAT IT READS IS OF BULK AT MOST 1048576: true; the input reads as it did. -/
def featureClosesUptoRow : OpenClaim := { program := "ytglbfknmeojfkaa", sum := "918b551340e761d164b80f35fae5bbce00b2b887d1ffe49f62357c72a6ae013c", func := "linchpin/linchpinlaw11.FeatureCloses", spec := "featureCloses", inPlace := ["internal/bytealg.IndexByteString", "internal/bytealg.IndexString"], unfollowed := true, recurses := true, named := ["internal/bytealg.MaxLen"], apart := false, narrowed := true }
def FeatureClosesUptoSaid : Prop := featureClosesUptoRow.holds Try.pinned (OpenSpec.upto featureClosesSpec)

/-- 'linchpinlaw11.FeatureTwice', WHERE WHAT IT READS IS OF BULK AT MOST 1048576: true; the input reads as it did. -/
def featureTwiceUptoRow : OpenClaim := { program := "ytglbfknmeojfkaa", sum := "918b551340e761d164b80f35fae5bbce00b2b887d1ffe49f62357c72a6ae013c", func := "linchpin/linchpinlaw11.FeatureTwice", spec := "featureTwice", inPlace := ["internal/bytealg.IndexByteString", "internal/bytealg.IndexString"], unfollowed := true, recurses := true, named := ["internal/bytealg.MaxLen"], apart := false, narrowed := true }
def FeatureTwiceUptoSaid : Prop := featureTwiceUptoRow.holds Try.pinned (OpenSpec.upto featureTwiceSpec)

/-- 'linchpinlaw11.FeatureMore', WHERE WHAT IT READS IS OF BULK AT MOST 1048576: true; the input reads as it did. -/
def featureMoreUptoRow : OpenClaim := { program := "ytglbfknmeojfkaa", sum := "918b551340e761d164b80f35fae5bbce00b2b887d1ffe49f62357c72a6ae013c", func := "linchpin/linchpinlaw11.FeatureMore", spec := "featureMore", inPlace := ["internal/bytealg.IndexByteString", "internal/bytealg.IndexString"], unfollowed := true, recurses := true, named := ["internal/bytealg.MaxLen"], apart := false, narrowed := true }
def FeatureMoreUptoSaid : Prop := featureMoreUptoRow.holds Try.pinned (OpenSpec.upto featureMoreSpec)

/-- 'linchpinlaw11.FeatureLeast', WHERE WHAT IT READS IS OF BULK AT MOST 1048576: true; the input reads as it did. -/
def featureLeastUptoRow : OpenClaim := { program := "ytglbfknmeojfkaa", sum := "918b551340e761d164b80f35fae5bbce00b2b887d1ffe49f62357c72a6ae013c", func := "linchpin/linchpinlaw11.FeatureLeast", spec := "featureLeast", inPlace := ["internal/bytealg.IndexByteString", "internal/bytealg.IndexString"], unfollowed := true, recurses := true, named := ["internal/bytealg.MaxLen"], apart := false, narrowed := true }
def FeatureLeastUptoSaid : Prop := featureLeastUptoRow.holds Try.pinned (OpenSpec.upto featureLeastSpec)

end Rows
end Go.Proofs.Ytglbfknmeojfkaa
