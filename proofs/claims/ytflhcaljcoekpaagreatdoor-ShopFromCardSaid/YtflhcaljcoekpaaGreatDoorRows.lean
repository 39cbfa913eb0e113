/-
  NARROWER THAN 'FOR EVERY INPUT', by the rows' own cells (each row's printed sentence says how): IndexPrints: laid · IndexBack: laid · IndexSums: laid · IndexGrows: laid · ShopRaw: laid · ShopFrom: laid · ShopLater: laid · ShopPinned: laid.
  DERIVED. THE GIVEN ROWS OF THIS SEAT. 8 by the template 'for every input the law returns true; each argument reads behind the call as it read before'; 0 by the template 'total and deterministic' (their statements: YtflhcaljcoekpaaGreatDoorTotals.lean).
  GIVEN WITH THE SEED: the statements are not yours to turn. If you find one false, say at which input.
  Laid BY PROGRAM, IN A SANDBOX (cutbox-rows.mjs): the forced cells as the released guide's own fill.sh prints them over the translation 1324698901ca0c82… (all of the seat's roots in one cut). By AI agents, Wed Nov 11 2026. No macro, syntax, notation, axiom, sorry.
-/
import Derived.Test.YtflhcaljcoekpaaGreatDoorChecked
import GoSem.PinnedTables
import GoSem.Claim
import GoSem.ClaimJoined
import GoSem.ClaimMapViews
import Derived.JoinedTies
import Derived.KernelRfl
namespace Go.Proofs.YtflhcaljcoekpaaGreatDoor
/- THE CELL 'sum', in the pinned program and in every row, IS THE sha256 OF THE DUMP (.gsa) THAT YtflhcaljcoekpaaGreatDoorProg.lean LOADS. Nothing in Lean hashes anything: it is a label: what it is worth is what the hold of that sum in a sandbox is worth. -/
noncomputable def Tryz.pinned : Pinned := { name := "ytflhcaljcoekpaagreatdoor", sum := "1324698901ca0c82b75c00e4fb0208a6211efd67eea3dbc39977283aa1d959c4", checked := Tryz.checked }
namespace Rows
def none {H : Type} : Left H := { results := [], args := [] }

/- WHAT THE LISTED PACKAGE-LEVEL VARIABLES READ AS WHEN THE CALL BEGINS. Each datum BY PROGRAM (the guide's laid-datum.mjs) off the statement by which the dump's own 'gosem.cut.vars' lays the variable. In a bare row this is a premise. The card (YtflhcaljcoekpaaGreatDoorCards.lean) ties it to the program's text. -/
def laid_math_bits_deBruijn32tab {H : Type} : DataW H := .agg [.lit (.int .u8 0), .lit (.int .u8 1), .lit (.int .u8 28), .lit (.int .u8 2), .lit (.int .u8 29), .lit (.int .u8 14), .lit (.int .u8 24), .lit (.int .u8 3), .lit (.int .u8 30), .lit (.int .u8 22), .lit (.int .u8 20), .lit (.int .u8 15), .lit (.int .u8 25), .lit (.int .u8 17), .lit (.int .u8 4), .lit (.int .u8 8), .lit (.int .u8 31), .lit (.int .u8 27), .lit (.int .u8 13), .lit (.int .u8 23), .lit (.int .u8 21), .lit (.int .u8 19), .lit (.int .u8 16), .lit (.int .u8 7), .lit (.int .u8 26), .lit (.int .u8 12), .lit (.int .u8 18), .lit (.int .u8 6), .lit (.int .u8 11), .lit (.int .u8 5), .lit (.int .u8 10), .lit (.int .u8 9)]
def laid_math_bits_deBruijn64tab {H : Type} : DataW H := .agg [.lit (.int .u8 0), .lit (.int .u8 1), .lit (.int .u8 56), .lit (.int .u8 2), .lit (.int .u8 57), .lit (.int .u8 49), .lit (.int .u8 28), .lit (.int .u8 3), .lit (.int .u8 61), .lit (.int .u8 58), .lit (.int .u8 42), .lit (.int .u8 50), .lit (.int .u8 38), .lit (.int .u8 29), .lit (.int .u8 17), .lit (.int .u8 4), .lit (.int .u8 62), .lit (.int .u8 47), .lit (.int .u8 59), .lit (.int .u8 36), .lit (.int .u8 45), .lit (.int .u8 43), .lit (.int .u8 51), .lit (.int .u8 22), .lit (.int .u8 53), .lit (.int .u8 39), .lit (.int .u8 33), .lit (.int .u8 30), .lit (.int .u8 24), .lit (.int .u8 18), .lit (.int .u8 12), .lit (.int .u8 5), .lit (.int .u8 63), .lit (.int .u8 55), .lit (.int .u8 48), .lit (.int .u8 27), .lit (.int .u8 60), .lit (.int .u8 41), .lit (.int .u8 37), .lit (.int .u8 16), .lit (.int .u8 46), .lit (.int .u8 35), .lit (.int .u8 44), .lit (.int .u8 21), .lit (.int .u8 52), .lit (.int .u8 32), .lit (.int .u8 23), .lit (.int .u8 11), .lit (.int .u8 54), .lit (.int .u8 26), .lit (.int .u8 40), .lit (.int .u8 15), .lit (.int .u8 34), .lit (.int .u8 20), .lit (.int .u8 31), .lit (.int .u8 10), .lit (.int .u8 25), .lit (.int .u8 14), .lit (.int .u8 19), .lit (.int .u8 9), .lit (.int .u8 13), .lit (.int .u8 8), .lit (.int .u8 7), .lit (.int .u8 6)]
def laid_internal_strconv_uint64pow10 {H : Type} : DataW H := .agg [.lit (.int .u64 1), .lit (.int .u64 10), .lit (.int .u64 100), .lit (.int .u64 1000), .lit (.int .u64 10000), .lit (.int .u64 100000), .lit (.int .u64 1000000), .lit (.int .u64 10000000), .lit (.int .u64 100000000), .lit (.int .u64 1000000000), .lit (.int .u64 10000000000), .lit (.int .u64 100000000000), .lit (.int .u64 1000000000000), .lit (.int .u64 10000000000000), .lit (.int .u64 100000000000000), .lit (.int .u64 1000000000000000), .lit (.int .u64 10000000000000000), .lit (.int .u64 100000000000000000), .lit (.int .u64 1000000000000000000), .lit (.int .u64 10000000000000000000)]
def laid_unicode_utf8_acceptRanges {H : Type} : DataW H := .agg [.agg [.lit (.int .u8 128), .lit (.int .u8 191)], .agg [.lit (.int .u8 160), .lit (.int .u8 191)], .agg [.lit (.int .u8 128), .lit (.int .u8 159)], .agg [.lit (.int .u8 144), .lit (.int .u8 191)], .agg [.lit (.int .u8 128), .lit (.int .u8 143)], .agg [.lit (.int .u8 0), .lit (.int .u8 0)], .agg [.lit (.int .u8 0), .lit (.int .u8 0)], .agg [.lit (.int .u8 0), .lit (.int .u8 0)], .agg [.lit (.int .u8 0), .lit (.int .u8 0)], .agg [.lit (.int .u8 0), .lit (.int .u8 0)], .agg [.lit (.int .u8 0), .lit (.int .u8 0)], .agg [.lit (.int .u8 0), .lit (.int .u8 0)], .agg [.lit (.int .u8 0), .lit (.int .u8 0)], .agg [.lit (.int .u8 0), .lit (.int .u8 0)], .agg [.lit (.int .u8 0), .lit (.int .u8 0)], .agg [.lit (.int .u8 0), .lit (.int .u8 0)]]
def laid_linchpin_mark_keys {H : Type} : DataW H := .agg [.lit (.string [111, 115]), .lit (.string [97, 114, 99, 104]), .lit (.string [97, 98, 105])]
def laid_linchpin_record_layouts {H : Type} : DataW H := .agg [.agg [.lit (.int .i64 1), .lit (.string [112, 97, 99, 107, 97, 103, 101]), .lit (.int .i64 0), .lit (.int .i64 0), .lit (.int .i64 3), .lit (.bool false), .lit (.bool false)], .agg [.lit (.int .i64 2), .lit (.string [110, 101, 101, 100]), .lit (.int .i64 1), .lit (.int .i64 5), .lit (.int .i64 1), .lit (.bool false), .lit (.bool false)], .agg [.lit (.int .i64 3), .lit (.string [97, 110, 121]), .lit (.int .i64 2), .lit (.int .i64 3), .lit (.int .i64 5), .lit (.bool true), .lit (.bool false)], .agg [.lit (.int .i64 4), .lit (.string [119, 104, 101, 110]), .lit (.int .i64 2), .lit (.int .i64 3), .lit (.int .i64 2), .lit (.bool true), .lit (.bool false)], .agg [.lit (.int .i64 5), .lit (.string [111, 112, 116, 105, 111, 110]), .lit (.int .i64 2), .lit (.int .i64 4), .lit (.int .i64 2), .lit (.bool false), .lit (.bool false)], .agg [.lit (.int .i64 6), .lit (.string [98, 97, 114]), .lit (.int .i64 1), .lit (.int .i64 7), .lit (.int .i64 3), .lit (.bool true), .lit (.bool false)], .agg [.lit (.int .i64 7), .lit (.string [119, 104, 101, 110]), .lit (.int .i64 6), .lit (.int .i64 6), .lit (.int .i64 2), .lit (.bool true), .lit (.bool false)], .agg [.lit (.int .i64 8), .lit (.string [102, 101, 97, 116, 117, 114, 101]), .lit (.int .i64 1), .lit (.int .i64 8), .lit (.int .i64 2), .lit (.bool false), .lit (.bool true)]]
/-- One of Go's own tables, pinned by name: the form's constant. -/
def laid_unicode_utf8_first : DataW Unit := Go.Pinned.utf8First

/-- 'linchpinlaw14.IndexPrints': WHATEVER THE INPUT: true; the input reads as it did. -/
def indexPrintsSpec : ChangeSpec := { name := "indexPrints", fn := fun _ => fun
  | [d] => { results := [.lit (.bool true)], args := [d] }
  | _ => none }
def indexPrintsRow : OpenClaim := { program := "ytflhcaljcoekpaagreatdoor", sum := "1324698901ca0c82b75c00e4fb0208a6211efd67eea3dbc39977283aa1d959c4", func := "linchpin/linchpinlaw14.IndexPrints", spec := "indexPrints", inPlace := ["internal/bytealg.IndexByteString", "internal/bytealg.IndexString", "internal/bytealg.CountString", "internal/abi.NoEscape", "internal/bytealg.MakeNoZero", "internal/bytealg.abigen_runtime_cmpstring"], unfollowed := true, recurses := true, named := ["internal/bytealg.MaxLen", "unicode/utf8.first", "unicode/utf8.acceptRanges", "internal/strconv.uint64pow10", "math/bits.deBruijn32tab", "math/bits.deBruijn64tab", "linchpin/mark.keys", "linchpin/record.layouts"], apart := false, laid := [("math/bits.deBruijn32tab", laid_math_bits_deBruijn32tab), ("math/bits.deBruijn64tab", laid_math_bits_deBruijn64tab), ("internal/strconv.uint64pow10", laid_internal_strconv_uint64pow10), ("unicode/utf8.acceptRanges", laid_unicode_utf8_acceptRanges), ("linchpin/mark.keys", laid_linchpin_mark_keys), ("linchpin/record.layouts", laid_linchpin_record_layouts), ("unicode/utf8.first", laid_unicode_utf8_first)] }
def IndexPrintsSaid : Prop := indexPrintsRow.holds Tryz.pinned (OpenSpec.ofChange indexPrintsSpec)

/-- ITS FALSE NEIGHBOUR: 'it returns false'. Refute it at one input. -/
def indexPrintsWrong : ChangeSpec := { name := "indexPrints", fn := fun _ => fun
  | [d] => { results := [.lit (.bool false)], args := [d] }
  | _ => none }
def IndexPrintsWrongFalsely : Prop := indexPrintsRow.holds Tryz.pinned (OpenSpec.ofChange indexPrintsWrong)

/-- 'linchpinlaw14.IndexBack': WHATEVER THE INPUT: true; the input reads as it did. -/
def indexBackSpec : ChangeSpec := { name := "indexBack", fn := fun _ => fun
  | [d] => { results := [.lit (.bool true)], args := [d] }
  | _ => none }
def indexBackRow : OpenClaim := { program := "ytflhcaljcoekpaagreatdoor", sum := "1324698901ca0c82b75c00e4fb0208a6211efd67eea3dbc39977283aa1d959c4", func := "linchpin/linchpinlaw14.IndexBack", spec := "indexBack", inPlace := ["internal/bytealg.IndexByteString", "internal/bytealg.IndexString", "internal/bytealg.CountString", "internal/abi.NoEscape", "internal/bytealg.MakeNoZero", "internal/bytealg.abigen_runtime_cmpstring"], unfollowed := true, recurses := true, named := ["internal/bytealg.MaxLen", "unicode/utf8.first", "unicode/utf8.acceptRanges", "internal/strconv.uint64pow10", "math/bits.deBruijn32tab", "math/bits.deBruijn64tab", "linchpin/mark.keys", "linchpin/record.layouts"], apart := false, laid := [("math/bits.deBruijn32tab", laid_math_bits_deBruijn32tab), ("math/bits.deBruijn64tab", laid_math_bits_deBruijn64tab), ("internal/strconv.uint64pow10", laid_internal_strconv_uint64pow10), ("unicode/utf8.acceptRanges", laid_unicode_utf8_acceptRanges), ("linchpin/mark.keys", laid_linchpin_mark_keys), ("linchpin/record.layouts", laid_linchpin_record_layouts), ("unicode/utf8.first", laid_unicode_utf8_first)] }
def IndexBackSaid : Prop := indexBackRow.holds Tryz.pinned (OpenSpec.ofChange indexBackSpec)

/-- ITS FALSE NEIGHBOUR: 'it returns false'. Refute it at one input. -/
def indexBackWrong : ChangeSpec := { name := "indexBack", fn := fun _ => fun
  | [d] => { results := [.lit (.bool false)], args := [d] }
  | _ => none }
def IndexBackWrongFalsely : Prop := indexBackRow.holds Tryz.pinned (OpenSpec.ofChange indexBackWrong)

/-- 'linchpinlaw14.IndexSums': WHATEVER THE INPUT: true; the input reads as it did. -/
def indexSumsSpec : ChangeSpec := { name := "indexSums", fn := fun _ => fun
  | [d1, d2, d3] => { results := [.lit (.bool true)], args := [d1, d2, d3] }
  | _ => none }
def indexSumsRow : OpenClaim := { program := "ytflhcaljcoekpaagreatdoor", sum := "1324698901ca0c82b75c00e4fb0208a6211efd67eea3dbc39977283aa1d959c4", func := "linchpin/linchpinlaw14.IndexSums", spec := "indexSums", inPlace := ["internal/bytealg.IndexByteString", "internal/bytealg.IndexString", "internal/bytealg.CountString", "internal/abi.NoEscape", "internal/bytealg.MakeNoZero", "internal/bytealg.abigen_runtime_cmpstring"], unfollowed := true, recurses := true, named := ["internal/bytealg.MaxLen", "unicode/utf8.first", "unicode/utf8.acceptRanges", "internal/strconv.uint64pow10", "math/bits.deBruijn32tab", "math/bits.deBruijn64tab", "linchpin/mark.keys", "linchpin/record.layouts"], apart := false, laid := [("math/bits.deBruijn32tab", laid_math_bits_deBruijn32tab), ("math/bits.deBruijn64tab", laid_math_bits_deBruijn64tab), ("internal/strconv.uint64pow10", laid_internal_strconv_uint64pow10), ("unicode/utf8.acceptRanges", laid_unicode_utf8_acceptRanges), ("linchpin/mark.keys", laid_linchpin_mark_keys), ("linchpin/record.layouts", laid_linchpin_record_layouts), ("unicode/utf8.first", laid_unicode_utf8_first)] }
def IndexSumsSaid : Prop := indexSumsRow.holds Tryz.pinned (OpenSpec.ofChange indexSumsSpec)

/-- ITS FALSE NEIGHBOUR: 'it returns false'. Refute it at one input. -/
def indexSumsWrong : ChangeSpec := { name := "indexSums", fn := fun _ => fun
  | [d1, d2, d3] => { results := [.lit (.bool false)], args := [d1, d2, d3] }
  | _ => none }
def IndexSumsWrongFalsely : Prop := indexSumsRow.holds Tryz.pinned (OpenSpec.ofChange indexSumsWrong)

/-- 'linchpinlaw14.IndexGrows': WHATEVER THE INPUT: true; the input reads as it did. -/
def indexGrowsSpec : ChangeSpec := { name := "indexGrows", fn := fun _ => fun
  | [d1, d2] => { results := [.lit (.bool true)], args := [d1, d2] }
  | _ => none }
def indexGrowsRow : OpenClaim := { program := "ytflhcaljcoekpaagreatdoor", sum := "1324698901ca0c82b75c00e4fb0208a6211efd67eea3dbc39977283aa1d959c4", func := "linchpin/linchpinlaw14.IndexGrows", spec := "indexGrows", inPlace := ["internal/bytealg.IndexByteString", "internal/bytealg.IndexString", "internal/bytealg.CountString", "internal/abi.NoEscape", "internal/bytealg.MakeNoZero", "internal/bytealg.abigen_runtime_cmpstring"], unfollowed := true, recurses := true, named := ["internal/bytealg.MaxLen", "unicode/utf8.first", "unicode/utf8.acceptRanges", "internal/strconv.uint64pow10", "math/bits.deBruijn32tab", "math/bits.deBruijn64tab", "linchpin/mark.keys", "linchpin/record.layouts"], apart := false, laid := [("math/bits.deBruijn32tab", laid_math_bits_deBruijn32tab), ("math/bits.deBruijn64tab", laid_math_bits_deBruijn64tab), ("internal/strconv.uint64pow10", laid_internal_strconv_uint64pow10), ("unicode/utf8.acceptRanges", laid_unicode_utf8_acceptRanges), ("linchpin/mark.keys", laid_linchpin_mark_keys), ("linchpin/record.layouts", laid_linchpin_record_layouts), ("unicode/utf8.first", laid_unicode_utf8_first)] }
def IndexGrowsSaid : Prop := indexGrowsRow.holds Tryz.pinned (OpenSpec.ofChange indexGrowsSpec)

/-- ITS FALSE NEIGHBOUR: 'it returns false'. Refute it at one input. -/
def indexGrowsWrong : ChangeSpec := { name := "indexGrows", fn := fun _ => fun
  | [d1, d2] => { results := [.lit (.bool false)], args := [d1, d2] }
  | _ => none }
def IndexGrowsWrongFalsely : Prop := indexGrowsRow.holds Tryz.pinned (OpenSpec.ofChange indexGrowsWrong)

/-- 'linchpinlaw15.ShopRaw': WHATEVER THE INPUT: true; the input reads as it did. -/
def shopRawSpec : ChangeSpec := { name := "shopRaw", fn := fun _ => fun
  | [d1, d2, d3] => { results := [.lit (.bool true)], args := [d1, d2, d3] }
  | _ => none }
def shopRawRow : OpenClaim := { program := "ytflhcaljcoekpaagreatdoor", sum := "1324698901ca0c82b75c00e4fb0208a6211efd67eea3dbc39977283aa1d959c4", func := "linchpin/linchpinlaw15.ShopRaw", spec := "shopRaw", inPlace := ["internal/bytealg.IndexByteString", "internal/bytealg.IndexString", "internal/bytealg.CountString", "internal/abi.NoEscape", "internal/bytealg.MakeNoZero", "internal/bytealg.abigen_runtime_cmpstring"], unfollowed := true, recurses := true, named := ["internal/bytealg.MaxLen", "unicode/utf8.first", "unicode/utf8.acceptRanges", "internal/strconv.uint64pow10", "math/bits.deBruijn32tab", "math/bits.deBruijn64tab", "linchpin/mark.keys"], apart := false, laid := [("math/bits.deBruijn32tab", laid_math_bits_deBruijn32tab), ("math/bits.deBruijn64tab", laid_math_bits_deBruijn64tab), ("internal/strconv.uint64pow10", laid_internal_strconv_uint64pow10), ("unicode/utf8.acceptRanges", laid_unicode_utf8_acceptRanges), ("linchpin/mark.keys", laid_linchpin_mark_keys), ("unicode/utf8.first", laid_unicode_utf8_first)] }
def ShopRawSaid : Prop := shopRawRow.holds Tryz.pinned (OpenSpec.ofChange shopRawSpec)

/-- ITS FALSE NEIGHBOUR: 'it returns false'. Refute it at one input. -/
def shopRawWrong : ChangeSpec := { name := "shopRaw", fn := fun _ => fun
  | [d1, d2, d3] => { results := [.lit (.bool false)], args := [d1, d2, d3] }
  | _ => none }
def ShopRawWrongFalsely : Prop := shopRawRow.holds Tryz.pinned (OpenSpec.ofChange shopRawWrong)

/-- 'linchpinlaw15.ShopFrom': WHATEVER THE INPUT: true; the input reads as it did. -/
def shopFromSpec : ChangeSpec := { name := "shopFrom", fn := fun _ => fun
  | [d1, d2] => { results := [.lit (.bool true)], args := [d1, d2] }
  | _ => none }
def shopFromRow : OpenClaim := { program := "ytflhcaljcoekpaagreatdoor", sum := "1324698901ca0c82b75c00e4fb0208a6211efd67eea3dbc39977283aa1d959c4", func := "linchpin/linchpinlaw15.ShopFrom", spec := "shopFrom", inPlace := ["internal/bytealg.IndexByteString", "internal/bytealg.IndexString", "internal/bytealg.CountString", "internal/abi.NoEscape", "internal/bytealg.MakeNoZero", "internal/bytealg.abigen_runtime_cmpstring"], unfollowed := true, recurses := true, named := ["internal/bytealg.MaxLen", "unicode/utf8.first", "unicode/utf8.acceptRanges", "internal/strconv.uint64pow10", "math/bits.deBruijn32tab", "math/bits.deBruijn64tab", "linchpin/mark.keys"], apart := false, laid := [("math/bits.deBruijn32tab", laid_math_bits_deBruijn32tab), ("math/bits.deBruijn64tab", laid_math_bits_deBruijn64tab), ("internal/strconv.uint64pow10", laid_internal_strconv_uint64pow10), ("unicode/utf8.acceptRanges", laid_unicode_utf8_acceptRanges), ("linchpin/mark.keys", laid_linchpin_mark_keys), ("unicode/utf8.first", laid_unicode_utf8_first)] }
def ShopFromSaid : Prop := shopFromRow.holds Tryz.pinned (OpenSpec.ofChange shopFromSpec)

/-- ITS FALSE NEIGHBOUR: 'it returns false'. Refute it at one input. -/
def shopFromWrong : ChangeSpec := { name := "shopFrom", fn := fun _ => fun
  | [d1, d2] => { results := [.lit (.bool false)], args := [d1, d2] }
  | _ => none }
def ShopFromWrongFalsely : Prop := shopFromRow.holds Tryz.pinned (OpenSpec.ofChange shopFromWrong)

/-- 'linchpinlaw15.ShopLater': WHATEVER THE INPUT: true; the input reads as it did. -/
def shopLaterSpec : ChangeSpec := { name := "shopLater", fn := fun _ => fun
  | [d1, d2, d3] => { results := [.lit (.bool true)], args := [d1, d2, d3] }
  | _ => none }
def shopLaterRow : OpenClaim := { program := "ytflhcaljcoekpaagreatdoor", sum := "1324698901ca0c82b75c00e4fb0208a6211efd67eea3dbc39977283aa1d959c4", func := "linchpin/linchpinlaw15.ShopLater", spec := "shopLater", inPlace := ["internal/bytealg.IndexByteString", "internal/bytealg.IndexString", "internal/bytealg.CountString", "internal/abi.NoEscape", "internal/bytealg.MakeNoZero", "internal/bytealg.abigen_runtime_cmpstring"], unfollowed := true, recurses := true, named := ["internal/bytealg.MaxLen", "unicode/utf8.first", "unicode/utf8.acceptRanges", "internal/strconv.uint64pow10", "math/bits.deBruijn32tab", "math/bits.deBruijn64tab", "linchpin/mark.keys"], apart := false, laid := [("math/bits.deBruijn32tab", laid_math_bits_deBruijn32tab), ("math/bits.deBruijn64tab", laid_math_bits_deBruijn64tab), ("internal/strconv.uint64pow10", laid_internal_strconv_uint64pow10), ("unicode/utf8.acceptRanges", laid_unicode_utf8_acceptRanges), ("linchpin/mark.keys", laid_linchpin_mark_keys), ("unicode/utf8.first", laid_unicode_utf8_first)] }
def ShopLaterSaid : Prop := shopLaterRow.holds Tryz.pinned (OpenSpec.ofChange shopLaterSpec)

/-- ITS FALSE NEIGHBOUR: 'it returns false'. Refute it at one input. -/
def shopLaterWrong : ChangeSpec := { name := "shopLater", fn := fun _ => fun
  | [d1, d2, d3] => { results := [.lit (.bool false)], args := [d1, d2, d3] }
  | _ => none }
def ShopLaterWrongFalsely : Prop := shopLaterRow.holds Tryz.pinned (OpenSpec.ofChange shopLaterWrong)

/-- 'linchpinlaw15.ShopPinned': WHATEVER THE INPUT: true; the input reads as it did. -/
def shopPinnedSpec : ChangeSpec := { name := "shopPinned", fn := fun _ => fun
  | [d1, d2] => { results := [.lit (.bool true)], args := [d1, d2] }
  | _ => none }
def shopPinnedRow : OpenClaim := { program := "ytflhcaljcoekpaagreatdoor", sum := "1324698901ca0c82b75c00e4fb0208a6211efd67eea3dbc39977283aa1d959c4", func := "linchpin/linchpinlaw15.ShopPinned", spec := "shopPinned", inPlace := ["internal/bytealg.IndexByteString", "internal/bytealg.IndexString", "internal/bytealg.CountString", "internal/abi.NoEscape", "internal/bytealg.MakeNoZero", "internal/bytealg.abigen_runtime_cmpstring"], unfollowed := true, recurses := true, named := ["internal/bytealg.MaxLen", "unicode/utf8.first", "unicode/utf8.acceptRanges", "internal/strconv.uint64pow10", "math/bits.deBruijn32tab", "math/bits.deBruijn64tab", "linchpin/mark.keys"], apart := false, laid := [("math/bits.deBruijn32tab", laid_math_bits_deBruijn32tab), ("math/bits.deBruijn64tab", laid_math_bits_deBruijn64tab), ("internal/strconv.uint64pow10", laid_internal_strconv_uint64pow10), ("unicode/utf8.acceptRanges", laid_unicode_utf8_acceptRanges), ("linchpin/mark.keys", laid_linchpin_mark_keys), ("unicode/utf8.first", laid_unicode_utf8_first)] }
def ShopPinnedSaid : Prop := shopPinnedRow.holds Tryz.pinned (OpenSpec.ofChange shopPinnedSpec)

/-- ITS FALSE NEIGHBOUR: 'it returns false'. Refute it at one input. -/
def shopPinnedWrong : ChangeSpec := { name := "shopPinned", fn := fun _ => fun
  | [d1, d2] => { results := [.lit (.bool false)], args := [d1, d2] }
  | _ => none }
def ShopPinnedWrongFalsely : Prop := shopPinnedRow.holds Tryz.pinned (OpenSpec.ofChange shopPinnedWrong)

/- THE SECOND FORM. 'bulk': how many values and letters a reading holds, each counted each time it is reached (what is shared counts as often as it is met; a slice's spare places count too). A statement '..UptoSaid' is the law's where the arguments, and the package variables that the reading takes, are together of bulk at most 1048576: NARROWER than '..Said'. Prove '..Said' where nothing that the law and all that it calls make is longer than what came in: it says more and counts as full. Else prove '..UptoSaid'. A law counts once. -/
mutual
def uptoBulk {H : Type} : DataW H → Nat
  | .lit (.string bytes) => bytes.length + 1
  | .lit _ => 1
  | .nil => 1
  | .ptr d => uptoBulk d + 1
  | .slice elems spare => uptoBulkAll elems + uptoBulkAll spare + 1
  | .agg parts => uptoBulkAll parts + 1
  | .iface _ d => uptoBulk d + 1
  | .map entries => uptoBulkEntries entries + 1
  | .held _ => 1
def uptoBulkAll {H : Type} : List (DataW H) → Nat
  | [] => 0
  | d :: r => uptoBulk d + uptoBulkAll r
def uptoBulkEntries {H : Type} : List (Lit × DataW H) → Nat
  | [] => 0
  | x :: r => uptoBulkEntry x + uptoBulkEntries r
def uptoBulkEntry {H : Type} : Lit × DataW H → Nat
  | (.string bytes, d) => bytes.length + uptoBulk d + 1
  | (_, d) => uptoBulk d + 1
 end
def uptoSmall : (H : Type) → List (DataW H) → Bool := fun _ ds => decide (uptoBulkAll ds ≤ 1048576)
def OpenSpec.upto (s : _root_.Go.ChangeSpec) : _root_.Go.OpenSpec := { _root_.Go.OpenSpec.ofChange s with cond := some uptoSmall }

/-- 'linchpinlaw14.IndexPrints', WHERE WHAT IT READS IS OF BULK AT MOST 1048576: true; the input reads as it did. -/
def indexPrintsUptoRow : OpenClaim := { program := "ytflhcaljcoekpaagreatdoor", sum := "1324698901ca0c82b75c00e4fb0208a6211efd67eea3dbc39977283aa1d959c4", func := "linchpin/linchpinlaw14.IndexPrints", spec := "indexPrints", inPlace := ["internal/bytealg.IndexByteString", "internal/bytealg.IndexString", "internal/bytealg.CountString", "internal/abi.NoEscape", "internal/bytealg.MakeNoZero", "internal/bytealg.abigen_runtime_cmpstring"], unfollowed := true, recurses := true, named := ["internal/bytealg.MaxLen", "unicode/utf8.first", "unicode/utf8.acceptRanges", "internal/strconv.uint64pow10", "math/bits.deBruijn32tab", "math/bits.deBruijn64tab", "linchpin/mark.keys", "linchpin/record.layouts"], apart := false, laid := [("math/bits.deBruijn32tab", laid_math_bits_deBruijn32tab), ("math/bits.deBruijn64tab", laid_math_bits_deBruijn64tab), ("internal/strconv.uint64pow10", laid_internal_strconv_uint64pow10), ("unicode/utf8.acceptRanges", laid_unicode_utf8_acceptRanges), ("linchpin/mark.keys", laid_linchpin_mark_keys), ("linchpin/record.layouts", laid_linchpin_record_layouts), ("unicode/utf8.first", laid_unicode_utf8_first)], narrowed := true }
def IndexPrintsUptoSaid : Prop := indexPrintsUptoRow.holds Tryz.pinned (OpenSpec.upto indexPrintsSpec)

/-- 'linchpinlaw14.IndexBack', WHERE WHAT IT READS IS OF BULK AT MOST 1048576: true; the input reads as it did. -/
def indexBackUptoRow : OpenClaim := { program := "ytflhcaljcoekpaagreatdoor", sum := "1324698901ca0c82b75c00e4fb0208a6211efd67eea3dbc39977283aa1d959c4", func := "linchpin/linchpinlaw14.IndexBack", spec := "indexBack", inPlace := ["internal/bytealg.IndexByteString", "internal/bytealg.IndexString", "internal/bytealg.CountString", "internal/abi.NoEscape", "internal/bytealg.MakeNoZero", "internal/bytealg.abigen_runtime_cmpstring"], unfollowed := true, recurses := true, named := ["internal/bytealg.MaxLen", "unicode/utf8.first", "unicode/utf8.acceptRanges", "internal/strconv.uint64pow10", "math/bits.deBruijn32tab", "math/bits.deBruijn64tab", "linchpin/mark.keys", "linchpin/record.layouts"], apart := false, laid := [("math/bits.deBruijn32tab", laid_math_bits_deBruijn32tab), ("math/bits.deBruijn64tab", laid_math_bits_deBruijn64tab), ("internal/strconv.uint64pow10", laid_internal_strconv_uint64pow10), ("unicode/utf8.acceptRanges", laid_unicode_utf8_acceptRanges), ("linchpin/mark.keys", laid_linchpin_mark_keys), ("linchpin/record.layouts", laid_linchpin_record_layouts), ("unicode/utf8.first", laid_unicode_utf8_first)], narrowed := true }
def IndexBackUptoSaid : Prop := indexBackUptoRow.holds Tryz.pinned (OpenSpec.upto indexBackSpec)

/-- 'linchpinlaw14.IndexSums', WHERE WHAT IT READS IS OF BULK AT MOST 1048576: true; the input reads as it did. -/
def indexSumsUptoRow : OpenClaim := { program := "ytflhcaljcoekpaagreatdoor", sum := "1324698901ca0c82b75c00e4fb0208a6211efd67eea3dbc39977283aa1d959c4", func := "linchpin/linchpinlaw14.IndexSums", spec := "indexSums", inPlace := ["internal/bytealg.IndexByteString", "internal/bytealg.IndexString", "internal/bytealg.CountString", "internal/abi.NoEscape", "internal/bytealg.MakeNoZero", "internal/bytealg.abigen_runtime_cmpstring"], unfollowed := true, recurses := true, named := ["internal/bytealg.MaxLen", "unicode/utf8.first", "unicode/utf8.acceptRanges", "internal/strconv.uint64pow10", "math/bits.deBruijn32tab", "math/bits.deBruijn64tab", "linchpin/mark.keys", "linchpin/record.layouts"], apart := false, laid := [("math/bits.deBruijn32tab", laid_math_bits_deBruijn32tab), ("math/bits.deBruijn64tab", laid_math_bits_deBruijn64tab), ("internal/strconv.uint64pow10", laid_internal_strconv_uint64pow10), ("unicode/utf8.acceptRanges", laid_unicode_utf8_acceptRanges), ("linchpin/mark.keys", laid_linchpin_mark_keys), ("linchpin/record.layouts", laid_linchpin_record_layouts), ("unicode/utf8.first", laid_unicode_utf8_first)], narrowed := true }
def IndexSumsUptoSaid : Prop := indexSumsUptoRow.holds Tryz.pinned (OpenSpec.upto indexSumsSpec)

/-- 'linchpinlaw14.IndexGrows', WHERE WHAT IT READS IS OF BULK AT MOST 1048576: true; the input reads as it did. -/
def indexGrowsUptoRow : OpenClaim := { program := "ytflhcaljcoekpaagreatdoor", sum := "1324698901ca0c82b75c00e4fb0208a6211efd67eea3dbc39977283aa1d959c4", func := "linchpin/linchpinlaw14.IndexGrows", spec := "indexGrows", inPlace := ["internal/bytealg.IndexByteString", "internal/bytealg.IndexString", "internal/bytealg.CountString", "internal/abi.NoEscape", "internal/bytealg.MakeNoZero", "internal/bytealg.abigen_runtime_cmpstring"], unfollowed := true, recurses := true, named := ["internal/bytealg.MaxLen", "unicode/utf8.first", "unicode/utf8.acceptRanges", "internal/strconv.uint64pow10", "math/bits.deBruijn32tab", "math/bits.deBruijn64tab", "linchpin/mark.keys", "linchpin/record.layouts"], apart := false, laid := [("math/bits.deBruijn32tab", laid_math_bits_deBruijn32tab), ("math/bits.deBruijn64tab", laid_math_bits_deBruijn64tab), ("internal/strconv.uint64pow10", laid_internal_strconv_uint64pow10), ("unicode/utf8.acceptRanges", laid_unicode_utf8_acceptRanges), ("linchpin/mark.keys", laid_linchpin_mark_keys), ("linchpin/record.layouts", laid_linchpin_record_layouts), ("unicode/utf8.first", laid_unicode_utf8_first)], narrowed := true }
def IndexGrowsUptoSaid : Prop := indexGrowsUptoRow.holds Tryz.pinned (OpenSpec.upto indexGrowsSpec)

/-- 'linchpinlaw15.ShopRaw', WHERE WHAT IT READS IS OF BULK AT MOST 1048576: true; the input reads as it did. -/
def shopRawUptoRow : OpenClaim := { program := "ytflhcaljcoekpaagreatdoor", sum := "1324698901ca0c82b75c00e4fb0208a6211efd67eea3dbc39977283aa1d959c4", func := "linchpin/linchpinlaw15.ShopRaw", spec := "shopRaw", inPlace := ["internal/bytealg.IndexByteString", "internal/bytealg.IndexString", "internal/bytealg.CountString", "internal/abi.NoEscape", "internal/bytealg.MakeNoZero", "internal/bytealg.abigen_runtime_cmpstring"], unfollowed := true, recurses := true, named := ["internal/bytealg.MaxLen", "unicode/utf8.first", "unicode/utf8.acceptRanges", "internal/strconv.uint64pow10", "math/bits.deBruijn32tab", "math/bits.deBruijn64tab", "linchpin/mark.keys"], apart := false, laid := [("math/bits.deBruijn32tab", laid_math_bits_deBruijn32tab), ("math/bits.deBruijn64tab", laid_math_bits_deBruijn64tab), ("internal/strconv.uint64pow10", laid_internal_strconv_uint64pow10), ("unicode/utf8.acceptRanges", laid_unicode_utf8_acceptRanges), ("linchpin/mark.keys", laid_linchpin_mark_keys), ("unicode/utf8.first", laid_unicode_utf8_first)], narrowed := true }
def ShopRawUptoSaid : Prop := shopRawUptoRow.holds Tryz.pinned (OpenSpec.upto shopRawSpec)

/-- 'linchpinlaw15.ShopFrom', WHERE WHAT IT READS IS OF BULK AT MOST 1048576: true; the input reads as it did. -/
def shopFromUptoRow : OpenClaim := { program := "ytflhcaljcoekpaagreatdoor", sum := "1324698901ca0c82b75c00e4fb0208a6211efd67eea3dbc39977283aa1d959c4", func := "linchpin/linchpinlaw15.ShopFrom", spec := "shopFrom", inPlace := ["internal/bytealg.IndexByteString", "internal/bytealg.IndexString", "internal/bytealg.CountString", "internal/abi.NoEscape", "internal/bytealg.MakeNoZero", "internal/bytealg.abigen_runtime_cmpstring"], unfollowed := true, recurses := true, named := ["internal/bytealg.MaxLen", "unicode/utf8.first", "unicode/utf8.acceptRanges", "internal/strconv.uint64pow10", "math/bits.deBruijn32tab", "math/bits.deBruijn64tab", "linchpin/mark.keys"], apart := false, laid := [("math/bits.deBruijn32tab", laid_math_bits_deBruijn32tab), ("math/bits.deBruijn64tab", laid_math_bits_deBruijn64tab), ("internal/strconv.uint64pow10", laid_internal_strconv_uint64pow10), ("unicode/utf8.acceptRanges", laid_unicode_utf8_acceptRanges), ("linchpin/mark.keys", laid_linchpin_mark_keys), ("unicode/utf8.first", laid_unicode_utf8_first)], narrowed := true }
def ShopFromUptoSaid : Prop := shopFromUptoRow.holds Tryz.pinned (OpenSpec.upto shopFromSpec)

/-- 'linchpinlaw15.ShopLater', WHERE WHAT IT READS IS OF BULK AT MOST 1048576: true; the input reads as it did. -/
def shopLaterUptoRow : OpenClaim := { program := "ytflhcaljcoekpaagreatdoor", sum := "1324698901ca0c82b75c00e4fb0208a6211efd67eea3dbc39977283aa1d959c4", func := "linchpin/linchpinlaw15.ShopLater", spec := "shopLater", inPlace := ["internal/bytealg.IndexByteString", "internal/bytealg.IndexString", "internal/bytealg.CountString", "internal/abi.NoEscape", "internal/bytealg.MakeNoZero", "internal/bytealg.abigen_runtime_cmpstring"], unfollowed := true, recurses := true, named := ["internal/bytealg.MaxLen", "unicode/utf8.first", "unicode/utf8.acceptRanges", "internal/strconv.uint64pow10", "math/bits.deBruijn32tab", "math/bits.deBruijn64tab", "linchpin/mark.keys"], apart := false, laid := [("math/bits.deBruijn32tab", laid_math_bits_deBruijn32tab), ("math/bits.deBruijn64tab", laid_math_bits_deBruijn64tab), ("internal/strconv.uint64pow10", laid_internal_strconv_uint64pow10), ("unicode/utf8.acceptRanges", laid_unicode_utf8_acceptRanges), ("linchpin/mark.keys", laid_linchpin_mark_keys), ("unicode/utf8.first", laid_unicode_utf8_first)], narrowed := true }
def ShopLaterUptoSaid : Prop := shopLaterUptoRow.holds Tryz.pinned (OpenSpec.upto shopLaterSpec)

/-- 'linchpinlaw15.ShopPinned', WHERE WHAT IT READS IS OF BULK AT MOST 1048576: true; the input reads as it did. -/
def shopPinnedUptoRow : OpenClaim := { program := "ytflhcaljcoekpaagreatdoor", sum := "1324698901ca0c82b75c00e4fb0208a6211efd67eea3dbc39977283aa1d959c4", func := "linchpin/linchpinlaw15.ShopPinned", spec := "shopPinned", inPlace := ["internal/bytealg.IndexByteString", "internal/bytealg.IndexString", "internal/bytealg.CountString", "internal/abi.NoEscape", "internal/bytealg.MakeNoZero", "internal/bytealg.abigen_runtime_cmpstring"], unfollowed := true, recurses := true, named := ["internal/bytealg.MaxLen", "unicode/utf8.first", "unicode/utf8.acceptRanges", "internal/strconv.uint64pow10", "math/bits.deBruijn32tab", "math/bits.deBruijn64tab", "linchpin/mark.keys"], apart := false, laid := [("math/bits.deBruijn32tab", laid_math_bits_deBruijn32tab), ("math/bits.deBruijn64tab", laid_math_bits_deBruijn64tab), ("internal/strconv.uint64pow10", laid_internal_strconv_uint64pow10), ("unicode/utf8.acceptRanges", laid_unicode_utf8_acceptRanges), ("linchpin/mark.keys", laid_linchpin_mark_keys), ("unicode/utf8.first", laid_unicode_utf8_first)], narrowed := true }
def ShopPinnedUptoSaid : Prop := shopPinnedUptoRow.holds Tryz.pinned (OpenSpec.upto shopPinnedSpec)

end Rows
end Go.Proofs.YtflhcaljcoekpaaGreatDoor
