/-
  NARROWER THAN 'FOR EVERY INPUT', by the rows' own cells (each row's printed sentence says how): RecordReads: laid · RecordBent: laid · ShelfRaw: laid · ShelfPuts: laid · ShelfGrown: laid · ShelfSums: laid · IndexPrints: laid · IndexReads: laid · IndexBent: laid · IndexBack: laid · IndexSums: laid · IndexGrows: laid.
  DERIVED. THE GIVEN ROWS OF THIS SEAT. 12 by the template 'for every input the law returns true; each argument reads behind the call as it read before'; 0 by the template 'total and deterministic' (their statements: YtdafengdngglpaaGreatDoorTotals.lean).
  GIVEN WITH THE SEED: the statements are not yours to turn. If you find one false, say at which input.
  Laid BY PROGRAM, IN A SANDBOX (cutbox-rows.mjs): the forced cells as the released guide's own fill.sh prints them over the translation 3ea8e852fc329272… (all of the seat's roots in one cut). By AI agents, Wed Nov 11 2026. No macro, syntax, notation, axiom, sorry.
-/
import Derived.Test.YtdafengdngglpaaGreatDoorChecked
import GoSem.PinnedTables
import GoSem.Claim
import GoSem.ClaimJoined
import GoSem.ClaimMapViews
import Derived.JoinedTies
import Derived.KernelRfl
namespace Go.Proofs.YtdafengdngglpaaGreatDoor
/- THE CELL 'sum', in the pinned program and in every row, IS THE sha256 OF THE DUMP (.gsa) THAT YtdafengdngglpaaGreatDoorProg.lean LOADS. Nothing in Lean hashes anything: it is a label: what it is worth is what the hold of that sum in a sandbox is worth. -/
noncomputable def Tryz.pinned : Pinned := { name := "ytdafengdngglpaagreatdoor", sum := "3ea8e852fc3292728ef69bea3f3c35c7a4d960248c340c2d5e22278bf9f149c6", checked := Tryz.checked }
namespace Rows
def none {H : Type} : Left H := { results := [], args := [] }

/- WHAT THE LISTED PACKAGE-LEVEL VARIABLES READ AS WHEN THE CALL BEGINS. Each datum BY PROGRAM (the guide's laid-datum.mjs) off the statement by which the dump's own 'gosem.cut.vars' lays the variable. In a bare row this is a premise. The card (YtdafengdngglpaaGreatDoorCards.lean) ties it to the program's text. -/
def laid_math_bits_deBruijn32tab {H : Type} : DataW H := .agg [.lit (.int .u8 0), .lit (.int .u8 1), .lit (.int .u8 28), .lit (.int .u8 2), .lit (.int .u8 29), .lit (.int .u8 14), .lit (.int .u8 24), .lit (.int .u8 3), .lit (.int .u8 30), .lit (.int .u8 22), .lit (.int .u8 20), .lit (.int .u8 15), .lit (.int .u8 25), .lit (.int .u8 17), .lit (.int .u8 4), .lit (.int .u8 8), .lit (.int .u8 31), .lit (.int .u8 27), .lit (.int .u8 13), .lit (.int .u8 23), .lit (.int .u8 21), .lit (.int .u8 19), .lit (.int .u8 16), .lit (.int .u8 7), .lit (.int .u8 26), .lit (.int .u8 12), .lit (.int .u8 18), .lit (.int .u8 6), .lit (.int .u8 11), .lit (.int .u8 5), .lit (.int .u8 10), .lit (.int .u8 9)]
def laid_math_bits_deBruijn64tab {H : Type} : DataW H := .agg [.lit (.int .u8 0), .lit (.int .u8 1), .lit (.int .u8 56), .lit (.int .u8 2), .lit (.int .u8 57), .lit (.int .u8 49), .lit (.int .u8 28), .lit (.int .u8 3), .lit (.int .u8 61), .lit (.int .u8 58), .lit (.int .u8 42), .lit (.int .u8 50), .lit (.int .u8 38), .lit (.int .u8 29), .lit (.int .u8 17), .lit (.int .u8 4), .lit (.int .u8 62), .lit (.int .u8 47), .lit (.int .u8 59), .lit (.int .u8 36), .lit (.int .u8 45), .lit (.int .u8 43), .lit (.int .u8 51), .lit (.int .u8 22), .lit (.int .u8 53), .lit (.int .u8 39), .lit (.int .u8 33), .lit (.int .u8 30), .lit (.int .u8 24), .lit (.int .u8 18), .lit (.int .u8 12), .lit (.int .u8 5), .lit (.int .u8 63), .lit (.int .u8 55), .lit (.int .u8 48), .lit (.int .u8 27), .lit (.int .u8 60), .lit (.int .u8 41), .lit (.int .u8 37), .lit (.int .u8 16), .lit (.int .u8 46), .lit (.int .u8 35), .lit (.int .u8 44), .lit (.int .u8 21), .lit (.int .u8 52), .lit (.int .u8 32), .lit (.int .u8 23), .lit (.int .u8 11), .lit (.int .u8 54), .lit (.int .u8 26), .lit (.int .u8 40), .lit (.int .u8 15), .lit (.int .u8 34), .lit (.int .u8 20), .lit (.int .u8 31), .lit (.int .u8 10), .lit (.int .u8 25), .lit (.int .u8 14), .lit (.int .u8 19), .lit (.int .u8 9), .lit (.int .u8 13), .lit (.int .u8 8), .lit (.int .u8 7), .lit (.int .u8 6)]
def laid_internal_strconv_uint64pow10 {H : Type} : DataW H := .agg [.lit (.int .u64 1), .lit (.int .u64 10), .lit (.int .u64 100), .lit (.int .u64 1000), .lit (.int .u64 10000), .lit (.int .u64 100000), .lit (.int .u64 1000000), .lit (.int .u64 10000000), .lit (.int .u64 100000000), .lit (.int .u64 1000000000), .lit (.int .u64 10000000000), .lit (.int .u64 100000000000), .lit (.int .u64 1000000000000), .lit (.int .u64 10000000000000), .lit (.int .u64 100000000000000), .lit (.int .u64 1000000000000000), .lit (.int .u64 10000000000000000), .lit (.int .u64 100000000000000000), .lit (.int .u64 1000000000000000000), .lit (.int .u64 10000000000000000000)]
def laid_unicode_utf8_acceptRanges {H : Type} : DataW H := .agg [.agg [.lit (.int .u8 128), .lit (.int .u8 191)], .agg [.lit (.int .u8 160), .lit (.int .u8 191)], .agg [.lit (.int .u8 128), .lit (.int .u8 159)], .agg [.lit (.int .u8 144), .lit (.int .u8 191)], .agg [.lit (.int .u8 128), .lit (.int .u8 143)], .agg [.lit (.int .u8 0), .lit (.int .u8 0)], .agg [.lit (.int .u8 0), .lit (.int .u8 0)], .agg [.lit (.int .u8 0), .lit (.int .u8 0)], .agg [.lit (.int .u8 0), .lit (.int .u8 0)], .agg [.lit (.int .u8 0), .lit (.int .u8 0)], .agg [.lit (.int .u8 0), .lit (.int .u8 0)], .agg [.lit (.int .u8 0), .lit (.int .u8 0)], .agg [.lit (.int .u8 0), .lit (.int .u8 0)], .agg [.lit (.int .u8 0), .lit (.int .u8 0)], .agg [.lit (.int .u8 0), .lit (.int .u8 0)], .agg [.lit (.int .u8 0), .lit (.int .u8 0)]]
def laid_linchpin_mark_keys {H : Type} : DataW H := .agg [.lit (.string [111, 115]), .lit (.string [97, 114, 99, 104]), .lit (.string [97, 98, 105])]
def laid_linchpin_record_layouts {H : Type} : DataW H := .agg [.agg [.lit (.int .i64 1), .lit (.string [112, 97, 99, 107, 97, 103, 101]), .lit (.int .i64 0), .lit (.int .i64 0), .lit (.int .i64 3), .lit (.bool false), .lit (.bool false)], .agg [.lit (.int .i64 2), .lit (.string [110, 101, 101, 100]), .lit (.int .i64 1), .lit (.int .i64 5), .lit (.int .i64 1), .lit (.bool false), .lit (.bool false)], .agg [.lit (.int .i64 3), .lit (.string [97, 110, 121]), .lit (.int .i64 2), .lit (.int .i64 3), .lit (.int .i64 5), .lit (.bool true), .lit (.bool false)], .agg [.lit (.int .i64 4), .lit (.string [119, 104, 101, 110]), .lit (.int .i64 2), .lit (.int .i64 3), .lit (.int .i64 2), .lit (.bool true), .lit (.bool false)], .agg [.lit (.int .i64 5), .lit (.string [111, 112, 116, 105, 111, 110]), .lit (.int .i64 2), .lit (.int .i64 4), .lit (.int .i64 2), .lit (.bool false), .lit (.bool false)], .agg [.lit (.int .i64 6), .lit (.string [98, 97, 114]), .lit (.int .i64 1), .lit (.int .i64 7), .lit (.int .i64 3), .lit (.bool true), .lit (.bool false)], .agg [.lit (.int .i64 7), .lit (.string [119, 104, 101, 110]), .lit (.int .i64 6), .lit (.int .i64 6), .lit (.int .i64 2), .lit (.bool true), .lit (.bool false)], .agg [.lit (.int .i64 8), .lit (.string [102, 101, 97, 116, 117, 114, 101]), .lit (.int .i64 1), .lit (.int .i64 8), .lit (.int .i64 2), .lit (.bool false), .lit (.bool true)]]
/-- One of Go's own tables, pinned by name: the form's constant. -/
def laid_unicode_utf8_first : DataW Unit := Go.Pinned.utf8First

/-- 'linchpinlaw12.RecordReads': WHATEVER THE INPUT: true; the input reads as it did. -/
def recordReadsSpec : ChangeSpec := { name := "recordReads", fn := fun _ => fun
  | [d] => { results := [.lit (.bool true)], args := [d] }
  | _ => none }
def recordReadsRow : OpenClaim := { program := "ytdafengdngglpaagreatdoor", sum := "3ea8e852fc3292728ef69bea3f3c35c7a4d960248c340c2d5e22278bf9f149c6", func := "linchpin/linchpinlaw12.RecordReads", spec := "recordReads", inPlace := ["internal/bytealg.CountString", "internal/bytealg.IndexByteString", "internal/bytealg.IndexString", "internal/abi.NoEscape", "internal/bytealg.MakeNoZero"], unfollowed := true, recurses := true, named := ["linchpin/record.layouts", "unicode/utf8.first", "unicode/utf8.acceptRanges", "internal/bytealg.MaxLen", "internal/strconv.uint64pow10", "math/bits.deBruijn32tab", "math/bits.deBruijn64tab", "linchpin/mark.keys"], apart := false, laid := [("math/bits.deBruijn32tab", laid_math_bits_deBruijn32tab), ("math/bits.deBruijn64tab", laid_math_bits_deBruijn64tab), ("internal/strconv.uint64pow10", laid_internal_strconv_uint64pow10), ("unicode/utf8.acceptRanges", laid_unicode_utf8_acceptRanges), ("linchpin/mark.keys", laid_linchpin_mark_keys), ("linchpin/record.layouts", laid_linchpin_record_layouts), ("unicode/utf8.first", laid_unicode_utf8_first)] }
def RecordReadsSaid : Prop := recordReadsRow.holds Tryz.pinned (OpenSpec.ofChange recordReadsSpec)

/-- ITS FALSE NEIGHBOUR: 'it returns false'. Refute it at one input. -/
def recordReadsWrong : ChangeSpec := { name := "recordReads", fn := fun _ => fun
  | [d] => { results := [.lit (.bool false)], args := [d] }
  | _ => none }
def RecordReadsWrongFalsely : Prop := recordReadsRow.holds Tryz.pinned (OpenSpec.ofChange recordReadsWrong)

/-- 'linchpinlaw12.RecordBent': WHATEVER THE INPUT: true; the input reads as it did. -/
def recordBentSpec : ChangeSpec := { name := "recordBent", fn := fun _ => fun
  | [d1, d2, d3, d4] => { results := [.lit (.bool true)], args := [d1, d2, d3, d4] }
  | _ => none }
def recordBentRow : OpenClaim := { program := "ytdafengdngglpaagreatdoor", sum := "3ea8e852fc3292728ef69bea3f3c35c7a4d960248c340c2d5e22278bf9f149c6", func := "linchpin/linchpinlaw12.RecordBent", spec := "recordBent", inPlace := ["internal/bytealg.CountString", "internal/bytealg.IndexByteString", "internal/bytealg.IndexString", "internal/abi.NoEscape", "internal/bytealg.MakeNoZero"], unfollowed := true, recurses := true, named := ["linchpin/record.layouts", "unicode/utf8.first", "unicode/utf8.acceptRanges", "internal/bytealg.MaxLen", "internal/strconv.uint64pow10", "math/bits.deBruijn32tab", "math/bits.deBruijn64tab", "linchpin/mark.keys"], apart := false, laid := [("math/bits.deBruijn32tab", laid_math_bits_deBruijn32tab), ("math/bits.deBruijn64tab", laid_math_bits_deBruijn64tab), ("internal/strconv.uint64pow10", laid_internal_strconv_uint64pow10), ("unicode/utf8.acceptRanges", laid_unicode_utf8_acceptRanges), ("linchpin/mark.keys", laid_linchpin_mark_keys), ("linchpin/record.layouts", laid_linchpin_record_layouts), ("unicode/utf8.first", laid_unicode_utf8_first)] }
def RecordBentSaid : Prop := recordBentRow.holds Tryz.pinned (OpenSpec.ofChange recordBentSpec)

/-- ITS FALSE NEIGHBOUR: 'it returns false'. Refute it at one input. -/
def recordBentWrong : ChangeSpec := { name := "recordBent", fn := fun _ => fun
  | [d1, d2, d3, d4] => { results := [.lit (.bool false)], args := [d1, d2, d3, d4] }
  | _ => none }
def RecordBentWrongFalsely : Prop := recordBentRow.holds Tryz.pinned (OpenSpec.ofChange recordBentWrong)

/-- 'linchpinlaw13.ShelfRaw': WHATEVER THE INPUT: true; the input reads as it did. -/
def shelfRawSpec : ChangeSpec := { name := "shelfRaw", fn := fun _ => fun
  | [d1, d2, d3] => { results := [.lit (.bool true)], args := [d1, d2, d3] }
  | _ => none }
def shelfRawRow : OpenClaim := { program := "ytdafengdngglpaagreatdoor", sum := "3ea8e852fc3292728ef69bea3f3c35c7a4d960248c340c2d5e22278bf9f149c6", func := "linchpin/linchpinlaw13.ShelfRaw", spec := "shelfRaw", inPlace := ["internal/bytealg.IndexByteString", "internal/bytealg.IndexString", "internal/bytealg.CountString", "internal/abi.NoEscape", "internal/bytealg.MakeNoZero", "internal/bytealg.abigen_runtime_cmpstring"], unfollowed := true, recurses := true, named := ["internal/bytealg.MaxLen", "unicode/utf8.first", "unicode/utf8.acceptRanges", "internal/strconv.uint64pow10", "math/bits.deBruijn32tab", "math/bits.deBruijn64tab", "linchpin/mark.keys"], apart := false, laid := [("math/bits.deBruijn32tab", laid_math_bits_deBruijn32tab), ("math/bits.deBruijn64tab", laid_math_bits_deBruijn64tab), ("internal/strconv.uint64pow10", laid_internal_strconv_uint64pow10), ("unicode/utf8.acceptRanges", laid_unicode_utf8_acceptRanges), ("linchpin/mark.keys", laid_linchpin_mark_keys), ("unicode/utf8.first", laid_unicode_utf8_first)] }
def ShelfRawSaid : Prop := shelfRawRow.holds Tryz.pinned (OpenSpec.ofChange shelfRawSpec)

/-- ITS FALSE NEIGHBOUR: 'it returns false'. Refute it at one input. -/
def shelfRawWrong : ChangeSpec := { name := "shelfRaw", fn := fun _ => fun
  | [d1, d2, d3] => { results := [.lit (.bool false)], args := [d1, d2, d3] }
  | _ => none }
def ShelfRawWrongFalsely : Prop := shelfRawRow.holds Tryz.pinned (OpenSpec.ofChange shelfRawWrong)

/-- 'linchpinlaw13.ShelfPuts': WHATEVER THE INPUT: true; the input reads as it did. -/
def shelfPutsSpec : ChangeSpec := { name := "shelfPuts", fn := fun _ => fun
  | [d1, d2, d3, d4, d5] => { results := [.lit (.bool true)], args := [d1, d2, d3, d4, d5] }
  | _ => none }
def shelfPutsRow : OpenClaim := { program := "ytdafengdngglpaagreatdoor", sum := "3ea8e852fc3292728ef69bea3f3c35c7a4d960248c340c2d5e22278bf9f149c6", func := "linchpin/linchpinlaw13.ShelfPuts", spec := "shelfPuts", inPlace := ["internal/bytealg.IndexByteString", "internal/bytealg.IndexString", "internal/bytealg.CountString", "internal/abi.NoEscape", "internal/bytealg.MakeNoZero", "internal/bytealg.abigen_runtime_cmpstring"], unfollowed := true, recurses := true, named := ["internal/bytealg.MaxLen", "unicode/utf8.first", "unicode/utf8.acceptRanges", "internal/strconv.uint64pow10", "math/bits.deBruijn32tab", "math/bits.deBruijn64tab", "linchpin/mark.keys"], apart := false, laid := [("math/bits.deBruijn32tab", laid_math_bits_deBruijn32tab), ("math/bits.deBruijn64tab", laid_math_bits_deBruijn64tab), ("internal/strconv.uint64pow10", laid_internal_strconv_uint64pow10), ("unicode/utf8.acceptRanges", laid_unicode_utf8_acceptRanges), ("linchpin/mark.keys", laid_linchpin_mark_keys), ("unicode/utf8.first", laid_unicode_utf8_first)] }
def ShelfPutsSaid : Prop := shelfPutsRow.holds Tryz.pinned (OpenSpec.ofChange shelfPutsSpec)

/-- ITS FALSE NEIGHBOUR: 'it returns false'. Refute it at one input. -/
def shelfPutsWrong : ChangeSpec := { name := "shelfPuts", fn := fun _ => fun
  | [d1, d2, d3, d4, d5] => { results := [.lit (.bool false)], args := [d1, d2, d3, d4, d5] }
  | _ => none }
def ShelfPutsWrongFalsely : Prop := shelfPutsRow.holds Tryz.pinned (OpenSpec.ofChange shelfPutsWrong)

/-- 'linchpinlaw13.ShelfGrown': WHATEVER THE INPUT: true; the input reads as it did. -/
def shelfGrownSpec : ChangeSpec := { name := "shelfGrown", fn := fun _ => fun
  | [d1, d2] => { results := [.lit (.bool true)], args := [d1, d2] }
  | _ => none }
def shelfGrownRow : OpenClaim := { program := "ytdafengdngglpaagreatdoor", sum := "3ea8e852fc3292728ef69bea3f3c35c7a4d960248c340c2d5e22278bf9f149c6", func := "linchpin/linchpinlaw13.ShelfGrown", spec := "shelfGrown", inPlace := ["internal/bytealg.IndexByteString", "internal/bytealg.IndexString", "internal/bytealg.CountString", "internal/abi.NoEscape", "internal/bytealg.MakeNoZero", "internal/bytealg.abigen_runtime_cmpstring"], unfollowed := true, recurses := true, named := ["internal/bytealg.MaxLen", "unicode/utf8.first", "unicode/utf8.acceptRanges", "internal/strconv.uint64pow10", "math/bits.deBruijn32tab", "math/bits.deBruijn64tab", "linchpin/mark.keys"], apart := false, laid := [("math/bits.deBruijn32tab", laid_math_bits_deBruijn32tab), ("math/bits.deBruijn64tab", laid_math_bits_deBruijn64tab), ("internal/strconv.uint64pow10", laid_internal_strconv_uint64pow10), ("unicode/utf8.acceptRanges", laid_unicode_utf8_acceptRanges), ("linchpin/mark.keys", laid_linchpin_mark_keys), ("unicode/utf8.first", laid_unicode_utf8_first)] }
def ShelfGrownSaid : Prop := shelfGrownRow.holds Tryz.pinned (OpenSpec.ofChange shelfGrownSpec)

/-- ITS FALSE NEIGHBOUR: 'it returns false'. Refute it at one input. -/
def shelfGrownWrong : ChangeSpec := { name := "shelfGrown", fn := fun _ => fun
  | [d1, d2] => { results := [.lit (.bool false)], args := [d1, d2] }
  | _ => none }
def ShelfGrownWrongFalsely : Prop := shelfGrownRow.holds Tryz.pinned (OpenSpec.ofChange shelfGrownWrong)

/-- 'linchpinlaw13.ShelfSums': WHATEVER THE INPUT: true; the input reads as it did. -/
def shelfSumsSpec : ChangeSpec := { name := "shelfSums", fn := fun _ => fun
  | [d1, d2] => { results := [.lit (.bool true)], args := [d1, d2] }
  | _ => none }
def shelfSumsRow : OpenClaim := { program := "ytdafengdngglpaagreatdoor", sum := "3ea8e852fc3292728ef69bea3f3c35c7a4d960248c340c2d5e22278bf9f149c6", func := "linchpin/linchpinlaw13.ShelfSums", spec := "shelfSums", inPlace := ["internal/bytealg.IndexByteString", "internal/bytealg.IndexString", "internal/bytealg.CountString", "internal/abi.NoEscape", "internal/bytealg.MakeNoZero", "internal/bytealg.abigen_runtime_cmpstring"], unfollowed := true, recurses := true, named := ["internal/bytealg.MaxLen", "unicode/utf8.first", "unicode/utf8.acceptRanges", "internal/strconv.uint64pow10", "math/bits.deBruijn32tab", "math/bits.deBruijn64tab", "linchpin/mark.keys"], apart := false, laid := [("math/bits.deBruijn32tab", laid_math_bits_deBruijn32tab), ("math/bits.deBruijn64tab", laid_math_bits_deBruijn64tab), ("internal/strconv.uint64pow10", laid_internal_strconv_uint64pow10), ("unicode/utf8.acceptRanges", laid_unicode_utf8_acceptRanges), ("linchpin/mark.keys", laid_linchpin_mark_keys), ("unicode/utf8.first", laid_unicode_utf8_first)] }
def ShelfSumsSaid : Prop := shelfSumsRow.holds Tryz.pinned (OpenSpec.ofChange shelfSumsSpec)

/-- ITS FALSE NEIGHBOUR: 'it returns false'. Refute it at one input. -/
def shelfSumsWrong : ChangeSpec := { name := "shelfSums", fn := fun _ => fun
  | [d1, d2] => { results := [.lit (.bool false)], args := [d1, d2] }
  | _ => none }
def ShelfSumsWrongFalsely : Prop := shelfSumsRow.holds Tryz.pinned (OpenSpec.ofChange shelfSumsWrong)

/-- 'linchpinlaw14.IndexPrints': WHATEVER THE INPUT: true; the input reads as it did. -/
def indexPrintsSpec : ChangeSpec := { name := "indexPrints", fn := fun _ => fun
  | [d] => { results := [.lit (.bool true)], args := [d] }
  | _ => none }
def indexPrintsRow : OpenClaim := { program := "ytdafengdngglpaagreatdoor", sum := "3ea8e852fc3292728ef69bea3f3c35c7a4d960248c340c2d5e22278bf9f149c6", func := "linchpin/linchpinlaw14.IndexPrints", spec := "indexPrints", inPlace := ["internal/bytealg.IndexByteString", "internal/bytealg.IndexString", "internal/bytealg.CountString", "internal/abi.NoEscape", "internal/bytealg.MakeNoZero", "internal/bytealg.abigen_runtime_cmpstring"], unfollowed := true, recurses := true, named := ["internal/bytealg.MaxLen", "unicode/utf8.first", "unicode/utf8.acceptRanges", "internal/strconv.uint64pow10", "math/bits.deBruijn32tab", "math/bits.deBruijn64tab", "linchpin/mark.keys", "linchpin/record.layouts"], apart := false, laid := [("math/bits.deBruijn32tab", laid_math_bits_deBruijn32tab), ("math/bits.deBruijn64tab", laid_math_bits_deBruijn64tab), ("internal/strconv.uint64pow10", laid_internal_strconv_uint64pow10), ("unicode/utf8.acceptRanges", laid_unicode_utf8_acceptRanges), ("linchpin/mark.keys", laid_linchpin_mark_keys), ("linchpin/record.layouts", laid_linchpin_record_layouts), ("unicode/utf8.first", laid_unicode_utf8_first)] }
def IndexPrintsSaid : Prop := indexPrintsRow.holds Tryz.pinned (OpenSpec.ofChange indexPrintsSpec)

/-- ITS FALSE NEIGHBOUR: 'it returns false'. Refute it at one input. -/
def indexPrintsWrong : ChangeSpec := { name := "indexPrints", fn := fun _ => fun
  | [d] => { results := [.lit (.bool false)], args := [d] }
  | _ => none }
def IndexPrintsWrongFalsely : Prop := indexPrintsRow.holds Tryz.pinned (OpenSpec.ofChange indexPrintsWrong)

/-- 'linchpinlaw14.IndexReads': WHATEVER THE INPUT: true; the input reads as it did. -/
def indexReadsSpec : ChangeSpec := { name := "indexReads", fn := fun _ => fun
  | [d] => { results := [.lit (.bool true)], args := [d] }
  | _ => none }
def indexReadsRow : OpenClaim := { program := "ytdafengdngglpaagreatdoor", sum := "3ea8e852fc3292728ef69bea3f3c35c7a4d960248c340c2d5e22278bf9f149c6", func := "linchpin/linchpinlaw14.IndexReads", spec := "indexReads", inPlace := ["internal/bytealg.IndexByteString", "internal/bytealg.IndexString", "internal/bytealg.CountString", "internal/abi.NoEscape", "internal/bytealg.MakeNoZero", "internal/bytealg.abigen_runtime_cmpstring"], unfollowed := true, recurses := true, named := ["internal/bytealg.MaxLen", "unicode/utf8.first", "unicode/utf8.acceptRanges", "internal/strconv.uint64pow10", "math/bits.deBruijn32tab", "math/bits.deBruijn64tab", "linchpin/mark.keys", "linchpin/record.layouts"], apart := false, laid := [("math/bits.deBruijn32tab", laid_math_bits_deBruijn32tab), ("math/bits.deBruijn64tab", laid_math_bits_deBruijn64tab), ("internal/strconv.uint64pow10", laid_internal_strconv_uint64pow10), ("unicode/utf8.acceptRanges", laid_unicode_utf8_acceptRanges), ("linchpin/mark.keys", laid_linchpin_mark_keys), ("linchpin/record.layouts", laid_linchpin_record_layouts), ("unicode/utf8.first", laid_unicode_utf8_first)] }
def IndexReadsSaid : Prop := indexReadsRow.holds Tryz.pinned (OpenSpec.ofChange indexReadsSpec)

/-- ITS FALSE NEIGHBOUR: 'it returns false'. Refute it at one input. -/
def indexReadsWrong : ChangeSpec := { name := "indexReads", fn := fun _ => fun
  | [d] => { results := [.lit (.bool false)], args := [d] }
  | _ => none }
def IndexReadsWrongFalsely : Prop := indexReadsRow.holds Tryz.pinned (OpenSpec.ofChange indexReadsWrong)

/-- 'linchpinlaw14.IndexBent': WHATEVER THE INPUT: true; the input reads as it did. -/
def indexBentSpec : ChangeSpec := { name := "indexBent", fn := fun _ => fun
  | [d1, d2, d3, d4] => { results := [.lit (.bool true)], args := [d1, d2, d3, d4] }
  | _ => none }
def indexBentRow : OpenClaim := { program := "ytdafengdngglpaagreatdoor", sum := "3ea8e852fc3292728ef69bea3f3c35c7a4d960248c340c2d5e22278bf9f149c6", func := "linchpin/linchpinlaw14.IndexBent", spec := "indexBent", inPlace := ["internal/bytealg.IndexByteString", "internal/bytealg.IndexString", "internal/bytealg.CountString", "internal/abi.NoEscape", "internal/bytealg.MakeNoZero", "internal/bytealg.abigen_runtime_cmpstring"], unfollowed := true, recurses := true, named := ["internal/bytealg.MaxLen", "unicode/utf8.first", "unicode/utf8.acceptRanges", "internal/strconv.uint64pow10", "math/bits.deBruijn32tab", "math/bits.deBruijn64tab", "linchpin/mark.keys", "linchpin/record.layouts"], apart := false, laid := [("math/bits.deBruijn32tab", laid_math_bits_deBruijn32tab), ("math/bits.deBruijn64tab", laid_math_bits_deBruijn64tab), ("internal/strconv.uint64pow10", laid_internal_strconv_uint64pow10), ("unicode/utf8.acceptRanges", laid_unicode_utf8_acceptRanges), ("linchpin/mark.keys", laid_linchpin_mark_keys), ("linchpin/record.layouts", laid_linchpin_record_layouts), ("unicode/utf8.first", laid_unicode_utf8_first)] }
def IndexBentSaid : Prop := indexBentRow.holds Tryz.pinned (OpenSpec.ofChange indexBentSpec)

/-- ITS FALSE NEIGHBOUR: 'it returns false'. Refute it at one input. -/
def indexBentWrong : ChangeSpec := { name := "indexBent", fn := fun _ => fun
  | [d1, d2, d3, d4] => { results := [.lit (.bool false)], args := [d1, d2, d3, d4] }
  | _ => none }
def IndexBentWrongFalsely : Prop := indexBentRow.holds Tryz.pinned (OpenSpec.ofChange indexBentWrong)

/-- 'linchpinlaw14.IndexBack': WHATEVER THE INPUT: true; the input reads as it did. -/
def indexBackSpec : ChangeSpec := { name := "indexBack", fn := fun _ => fun
  | [d] => { results := [.lit (.bool true)], args := [d] }
  | _ => none }
def indexBackRow : OpenClaim := { program := "ytdafengdngglpaagreatdoor", sum := "3ea8e852fc3292728ef69bea3f3c35c7a4d960248c340c2d5e22278bf9f149c6", func := "linchpin/linchpinlaw14.IndexBack", spec := "indexBack", inPlace := ["internal/bytealg.IndexByteString", "internal/bytealg.IndexString", "internal/bytealg.CountString", "internal/abi.NoEscape", "internal/bytealg.MakeNoZero", "internal/bytealg.abigen_runtime_cmpstring"], unfollowed := true, recurses := true, named := ["internal/bytealg.MaxLen", "unicode/utf8.first", "unicode/utf8.acceptRanges", "internal/strconv.uint64pow10", "math/bits.deBruijn32tab", "math/bits.deBruijn64tab", "linchpin/mark.keys", "linchpin/record.layouts"], apart := false, laid := [("math/bits.deBruijn32tab", laid_math_bits_deBruijn32tab), ("math/bits.deBruijn64tab", laid_math_bits_deBruijn64tab), ("internal/strconv.uint64pow10", laid_internal_strconv_uint64pow10), ("unicode/utf8.acceptRanges", laid_unicode_utf8_acceptRanges), ("linchpin/mark.keys", laid_linchpin_mark_keys), ("linchpin/record.layouts", laid_linchpin_record_layouts), ("unicode/utf8.first", laid_unicode_utf8_first)] }
def IndexBackSaid : Prop := indexBackRow.holds Tryz.pinned (OpenSpec.ofChange indexBackSpec)

/-- ITS FALSE NEIGHBOUR: 'it returns false'. Refute it at one input. -/
def indexBackWrong : ChangeSpec := { name := "indexBack", fn := fun _ => fun
  | [d] => { results := [.lit (.bool false)], args := [d] }
  | _ => none }
def IndexBackWrongFalsely : Prop := indexBackRow.holds Tryz.pinned (OpenSpec.ofChange indexBackWrong)

/-- 'linchpinlaw14.IndexSums': WHATEVER THE INPUT: true; the input reads as it did. -/
def indexSumsSpec : ChangeSpec := { name := "indexSums", fn := fun _ => fun
  | [d1, d2, d3] => { results := [.lit (.bool true)], args := [d1, d2, d3] }
  | _ => none }
def indexSumsRow : OpenClaim := { program := "ytdafengdngglpaagreatdoor", sum := "3ea8e852fc3292728ef69bea3f3c35c7a4d960248c340c2d5e22278bf9f149c6", func := "linchpin/linchpinlaw14.IndexSums", spec := "indexSums", inPlace := ["internal/bytealg.IndexByteString", "internal/bytealg.IndexString", "internal/bytealg.CountString", "internal/abi.NoEscape", "internal/bytealg.MakeNoZero", "internal/bytealg.abigen_runtime_cmpstring"], unfollowed := true, recurses := true, named := ["internal/bytealg.MaxLen", "unicode/utf8.first", "unicode/utf8.acceptRanges", "internal/strconv.uint64pow10", "math/bits.deBruijn32tab", "math/bits.deBruijn64tab", "linchpin/mark.keys", "linchpin/record.layouts"], apart := false, laid := [("math/bits.deBruijn32tab", laid_math_bits_deBruijn32tab), ("math/bits.deBruijn64tab", laid_math_bits_deBruijn64tab), ("internal/strconv.uint64pow10", laid_internal_strconv_uint64pow10), ("unicode/utf8.acceptRanges", laid_unicode_utf8_acceptRanges), ("linchpin/mark.keys", laid_linchpin_mark_keys), ("linchpin/record.layouts", laid_linchpin_record_layouts), ("unicode/utf8.first", laid_unicode_utf8_first)] }
def IndexSumsSaid : Prop := indexSumsRow.holds Tryz.pinned (OpenSpec.ofChange indexSumsSpec)

/-- ITS FALSE NEIGHBOUR: 'it returns false'. Refute it at one input. -/
def indexSumsWrong : ChangeSpec := { name := "indexSums", fn := fun _ => fun
  | [d1, d2, d3] => { results := [.lit (.bool false)], args := [d1, d2, d3] }
  | _ => none }
def IndexSumsWrongFalsely : Prop := indexSumsRow.holds Tryz.pinned (OpenSpec.ofChange indexSumsWrong)

/-- 'linchpinlaw14.IndexGrows': WHATEVER THE INPUT: true; the input reads as it did. -/
def indexGrowsSpec : ChangeSpec := { name := "indexGrows", fn := fun _ => fun
  | [d1, d2] => { results := [.lit (.bool true)], args := [d1, d2] }
  | _ => none }
def indexGrowsRow : OpenClaim := { program := "ytdafengdngglpaagreatdoor", sum := "3ea8e852fc3292728ef69bea3f3c35c7a4d960248c340c2d5e22278bf9f149c6", func := "linchpin/linchpinlaw14.IndexGrows", spec := "indexGrows", inPlace := ["internal/bytealg.IndexByteString", "internal/bytealg.IndexString", "internal/bytealg.CountString", "internal/abi.NoEscape", "internal/bytealg.MakeNoZero", "internal/bytealg.abigen_runtime_cmpstring"], unfollowed := true, recurses := true, named := ["internal/bytealg.MaxLen", "unicode/utf8.first", "unicode/utf8.acceptRanges", "internal/strconv.uint64pow10", "math/bits.deBruijn32tab", "math/bits.deBruijn64tab", "linchpin/mark.keys", "linchpin/record.layouts"], apart := false, laid := [("math/bits.deBruijn32tab", laid_math_bits_deBruijn32tab), ("math/bits.deBruijn64tab", laid_math_bits_deBruijn64tab), ("internal/strconv.uint64pow10", laid_internal_strconv_uint64pow10), ("unicode/utf8.acceptRanges", laid_unicode_utf8_acceptRanges), ("linchpin/mark.keys", laid_linchpin_mark_keys), ("linchpin/record.layouts", laid_linchpin_record_layouts), ("unicode/utf8.first", laid_unicode_utf8_first)] }
def IndexGrowsSaid : Prop := indexGrowsRow.holds Tryz.pinned (OpenSpec.ofChange indexGrowsSpec)

/-- ITS FALSE NEIGHBOUR: 'it returns false'. Refute it at one input. -/
def indexGrowsWrong : ChangeSpec := { name := "indexGrows", fn := fun _ => fun
  | [d1, d2] => { results := [.lit (.bool false)], args := [d1, d2] }
  | _ => none }
def IndexGrowsWrongFalsely : Prop := indexGrowsRow.holds Tryz.pinned (OpenSpec.ofChange indexGrowsWrong)

/- THE SECOND FORM. 'bulk': how many values and letters a reading holds, each counted each time it is reached (what is shared counts as often as it is met; a slice's spare places count too). A statement '..UptoSaid' is the law's where the arguments, and the package variables that the reading takes, are together of bulk at most 1048576: NARROWER than '..Said'. Prove '..Said' where nothing that the law and all that it calls make is longer than what came in: it says more and counts as full. Else prove '..UptoSaid'. A law counts once. -/
mutual
def uptoBulk {H : Type} : DataW H → Nat
  | .lit (.string bytes) => bytes.length + 1
  | .lit _ => 1
  | .nil => 1
  | .ptr d => uptoBulk d + 1
  | .slice elems spare => uptoBulkAll elems + uptoBulkAll spare + 1
  | .agg parts => uptoBulkAll parts + 1
  | .iface _ d => uptoBulk d + 1
  | .map entries => uptoBulkEntries entries + 1
  | .held _ => 1
def uptoBulkAll {H : Type} : List (DataW H) → Nat
  | [] => 0
  | d :: r => uptoBulk d + uptoBulkAll r
def uptoBulkEntries {H : Type} : List (Lit × DataW H) → Nat
  | [] => 0
  | x :: r => uptoBulkEntry x + uptoBulkEntries r
def uptoBulkEntry {H : Type} : Lit × DataW H → Nat
  | (.string bytes, d) => bytes.length + uptoBulk d + 1
  | (_, d) => uptoBulk d + 1
 end
def uptoSmall : (H : Type) → List (DataW H) → Bool := fun _ ds => decide (uptoBulkAll ds ≤ 1048576)
def OpenSpec.upto (s : _root_.Go.ChangeSpec) : _root_.Go.OpenSpec := { _root_.Go.OpenSpec.ofChange s with cond := some uptoSmall }

/-- 'linchpinlaw12.RecordReads', WHERE WHAT IT READS IS OF BULK AT MOST 1048576: true; the input reads as it did. -/
def recordReadsUptoRow : OpenClaim := { program := "ytdafengdngglpaagreatdoor", sum := "3ea8e852fc3292728ef69bea3f3c35c7a4d960248c340c2d5e22278bf9f149c6", func := "linchpin/linchpinlaw12.RecordReads", spec := "recordReads", inPlace := ["internal/bytealg.CountString", "internal/bytealg.IndexByteString", "internal/bytealg.IndexString", "internal/abi.NoEscape", "internal/bytealg.MakeNoZero"], unfollowed := true, recurses := true, named := ["linchpin/record.layouts", "unicode/utf8.first", "unicode/utf8.acceptRanges", "internal/bytealg.MaxLen", "internal/strconv.uint64pow10", "math/bits.deBruijn32tab", "math/bits.deBruijn64tab", "linchpin/mark.keys"], apart := false, laid := [("math/bits.deBruijn32tab", laid_math_bits_deBruijn32tab), ("math/bits.deBruijn64tab", laid_math_bits_deBruijn64tab), ("internal/strconv.uint64pow10", laid_internal_strconv_uint64pow10), ("unicode/utf8.acceptRanges", laid_unicode_utf8_acceptRanges), ("linchpin/mark.keys", laid_linchpin_mark_keys), ("linchpin/record.layouts", laid_linchpin_record_layouts), ("unicode/utf8.first", laid_unicode_utf8_first)], narrowed := true }
def RecordReadsUptoSaid : Prop := recordReadsUptoRow.holds Tryz.pinned (OpenSpec.upto recordReadsSpec)

/-- 'linchpinlaw12.RecordBent', WHERE WHAT IT READS IS OF BULK AT MOST 1048576: true; the input reads as it did. -/
def recordBentUptoRow : OpenClaim := { program := "ytdafengdngglpaagreatdoor", sum := "3ea8e852fc3292728ef69bea3f3c35c7a4d960248c340c2d5e22278bf9f149c6", func := "linchpin/linchpinlaw12.RecordBent", spec := "recordBent", inPlace := ["internal/bytealg.CountString", "internal/bytealg.IndexByteString", "internal/bytealg.IndexString", "internal/abi.NoEscape", "internal/bytealg.MakeNoZero"], unfollowed := true, recurses := true, named := ["linchpin/record.layouts", "unicode/utf8.first", "unicode/utf8.acceptRanges", "internal/bytealg.MaxLen", "internal/strconv.uint64pow10", "math/bits.deBruijn32tab", "math/bits.deBruijn64tab", "linchpin/mark.keys"], apart := false, laid := [("math/bits.deBruijn32tab", laid_math_bits_deBruijn32tab), ("math/bits.deBruijn64tab", laid_math_bits_deBruijn64tab), ("internal/strconv.uint64pow10", laid_internal_strconv_uint64pow10), ("unicode/utf8.acceptRanges", laid_unicode_utf8_acceptRanges), ("linchpin/mark.keys", laid_linchpin_mark_keys), ("linchpin/record.layouts", laid_linchpin_record_layouts), ("unicode/utf8.first", laid_unicode_utf8_first)], narrowed := true }
def RecordBentUptoSaid : Prop := recordBentUptoRow.holds Tryz.pinned (OpenSpec.upto recordBentSpec)

/-- 'linchpinlaw13.ShelfRaw', WHERE WHAT IT READS IS OF BULK AT MOST 1048576: true; the input reads as it did. -/
def shelfRawUptoRow : OpenClaim := { program := "ytdafengdngglpaagreatdoor", sum := "3ea8e852fc3292728ef69bea3f3c35c7a4d960248c340c2d5e22278bf9f149c6", func := "linchpin/linchpinlaw13.ShelfRaw", spec := "shelfRaw", inPlace := ["internal/bytealg.IndexByteString", "internal/bytealg.IndexString", "internal/bytealg.CountString", "internal/abi.NoEscape", "internal/bytealg.MakeNoZero", "internal/bytealg.abigen_runtime_cmpstring"], unfollowed := true, recurses := true, named := ["internal/bytealg.MaxLen", "unicode/utf8.first", "unicode/utf8.acceptRanges", "internal/strconv.uint64pow10", "math/bits.deBruijn32tab", "math/bits.deBruijn64tab", "linchpin/mark.keys"], apart := false, laid := [("math/bits.deBruijn32tab", laid_math_bits_deBruijn32tab), ("math/bits.deBruijn64tab", laid_math_bits_deBruijn64tab), ("internal/strconv.uint64pow10", laid_internal_strconv_uint64pow10), ("unicode/utf8.acceptRanges", laid_unicode_utf8_acceptRanges), ("linchpin/mark.keys", laid_linchpin_mark_keys), ("unicode/utf8.first", laid_unicode_utf8_first)], narrowed := true }
def ShelfRawUptoSaid : Prop := shelfRawUptoRow.holds Tryz.pinned (OpenSpec.upto shelfRawSpec)

/-- 'linchpinlaw13.ShelfPuts', WHERE WHAT IT READS IS OF BULK AT MOST 1048576: true; the input reads as it did. -/
def shelfPutsUptoRow : OpenClaim := { program := "ytdafengdngglpaagreatdoor", sum := "3ea8e852fc3292728ef69bea3f3c35c7a4d960248c340c2d5e22278bf9f149c6", func := "linchpin/linchpinlaw13.ShelfPuts", spec := "shelfPuts", inPlace := ["internal/bytealg.IndexByteString", "internal/bytealg.IndexString", "internal/bytealg.CountString", "internal/abi.NoEscape", "internal/bytealg.MakeNoZero", "internal/bytealg.abigen_runtime_cmpstring"], unfollowed := true, recurses := true, named := ["internal/bytealg.MaxLen", "unicode/utf8.first", "unicode/utf8.acceptRanges", "internal/strconv.uint64pow10", "math/bits.deBruijn32tab", "math/bits.deBruijn64tab", "linchpin/mark.keys"], apart := false, laid := [("math/bits.deBruijn32tab", laid_math_bits_deBruijn32tab), ("math/bits.deBruijn64tab", laid_math_bits_deBruijn64tab), ("internal/strconv.uint64pow10", laid_internal_strconv_uint64pow10), ("unicode/utf8.acceptRanges", laid_unicode_utf8_acceptRanges), ("linchpin/mark.keys", laid_linchpin_mark_keys), ("unicode/utf8.first", laid_unicode_utf8_first)], narrowed := true }
def ShelfPutsUptoSaid : Prop := shelfPutsUptoRow.holds Tryz.pinned (OpenSpec.upto shelfPutsSpec)

/-- 'linchpinlaw13.ShelfGrown', WHERE WHAT IT READS IS OF BULK AT MOST 1048576: true; the input reads as it did. -/
def shelfGrownUptoRow : OpenClaim := { program := "ytdafengdngglpaagreatdoor", sum := "3ea8e852fc3292728ef69bea3f3c35c7a4d960248c340c2d5e22278bf9f149c6", func := "linchpin/linchpinlaw13.ShelfGrown", spec := "shelfGrown", inPlace := ["internal/bytealg.IndexByteString", "internal/bytealg.IndexString", "internal/bytealg.CountString", "internal/abi.NoEscape", "internal/bytealg.MakeNoZero", "internal/bytealg.abigen_runtime_cmpstring"], unfollowed := true, recurses := true, named := ["internal/bytealg.MaxLen", "unicode/utf8.first", "unicode/utf8.acceptRanges", "internal/strconv.uint64pow10", "math/bits.deBruijn32tab", "math/bits.deBruijn64tab", "linchpin/mark.keys"], apart := false, laid := [("math/bits.deBruijn32tab", laid_math_bits_deBruijn32tab), ("math/bits.deBruijn64tab", laid_math_bits_deBruijn64tab), ("internal/strconv.uint64pow10", laid_internal_strconv_uint64pow10), ("unicode/utf8.acceptRanges", laid_unicode_utf8_acceptRanges), ("linchpin/mark.keys", laid_linchpin_mark_keys), ("unicode/utf8.first", laid_unicode_utf8_first)], narrowed := true }
def ShelfGrownUptoSaid : Prop := shelfGrownUptoRow.holds Tryz.pinned (OpenSpec.upto shelfGrownSpec)

/-- 'linchpinlaw13.ShelfSums', WHERE WHAT IT READS IS OF BULK AT MOST 1048576: true; the input reads as it did. -/
def shelfSumsUptoRow : OpenClaim := { program := "ytdafengdngglpaagreatdoor", sum := "3ea8e852fc3292728ef69bea3f3c35c7a4d960248c340c2d5e22278bf9f149c6", func := "linchpin/linchpinlaw13.ShelfSums", spec := "shelfSums", inPlace := ["internal/bytealg.IndexByteString", "internal/bytealg.IndexString", "internal/bytealg.CountString", "internal/abi.NoEscape", "internal/bytealg.MakeNoZero", "internal/bytealg.abigen_runtime_cmpstring"], unfollowed := true, recurses := true, named := ["internal/bytealg.MaxLen", "unicode/utf8.first", "unicode/utf8.acceptRanges", "internal/strconv.uint64pow10", "math/bits.deBruijn32tab", "math/bits.deBruijn64tab", "linchpin/mark.keys"], apart := false, laid := [("math/bits.deBruijn32tab", laid_math_bits_deBruijn32tab), ("math/bits.deBruijn64tab", laid_math_bits_deBruijn64tab), ("internal/strconv.uint64pow10", laid_internal_strconv_uint64pow10), ("unicode/utf8.acceptRanges", laid_unicode_utf8_acceptRanges), ("linchpin/mark.keys", laid_linchpin_mark_keys), ("unicode/utf8.first", laid_unicode_utf8_first)], narrowed := true }
def ShelfSumsUptoSaid : Prop := shelfSumsUptoRow.holds Tryz.pinned (OpenSpec.upto shelfSumsSpec)

/-- 'linchpinlaw14.IndexPrints', WHERE WHAT IT READS IS OF BULK AT MOST 1048576: true; the input reads as it did. -/
def indexPrintsUptoRow : OpenClaim := { program := "ytdafengdngglpaagreatdoor", sum := "3ea8e852fc3292728ef69bea3f3c35c7a4d960248c340c2d5e22278bf9f149c6", func := "linchpin/linchpinlaw14.IndexPrints", spec := "indexPrints", inPlace := ["internal/bytealg.IndexByteString", "internal/bytealg.IndexString", "internal/bytealg.CountString", "internal/abi.NoEscape", "internal/bytealg.MakeNoZero", "internal/bytealg.abigen_runtime_cmpstring"], unfollowed := true, recurses := true, named := ["internal/bytealg.MaxLen", "unicode/utf8.first", "unicode/utf8.acceptRanges", "internal/strconv.uint64pow10", "math/bits.deBruijn32tab", "math/bits.deBruijn64tab", "linchpin/mark.keys", "linchpin/record.layouts"], apart := false, laid := [("math/bits.deBruijn32tab", laid_math_bits_deBruijn32tab), ("math/bits.deBruijn64tab", laid_math_bits_deBruijn64tab), ("internal/strconv.uint64pow10", laid_internal_strconv_uint64pow10), ("unicode/utf8.acceptRanges", laid_unicode_utf8_acceptRanges), ("linchpin/mark.keys", laid_linchpin_mark_keys), ("linchpin/record.layouts", laid_linchpin_record_layouts), ("unicode/utf8.first", laid_unicode_utf8_first)], narrowed := true }
def IndexPrintsUptoSaid : Prop := indexPrintsUptoRow.holds Tryz.pinned (OpenSpec.upto indexPrintsSpec)

/-- 'linchpinlaw14.IndexReads', WHERE WHAT IT READS IS OF BULK AT MOST 1048576: true; the input reads as it did. -/
def indexReadsUptoRow : OpenClaim := { program := "ytdafengdngglpaagreatdoor", sum := "3ea8e852fc3292728ef69bea3f3c35c7a4d960248c340c2d5e22278bf9f149c6", func := "linchpin/linchpinlaw14.IndexReads", spec := "indexReads", inPlace := ["internal/bytealg.IndexByteString", "internal/bytealg.IndexString", "internal/bytealg.CountString", "internal/abi.NoEscape", "internal/bytealg.MakeNoZero", "internal/bytealg.abigen_runtime_cmpstring"], unfollowed := true, recurses := true, named := ["internal/bytealg.MaxLen", "unicode/utf8.first", "unicode/utf8.acceptRanges", "internal/strconv.uint64pow10", "math/bits.deBruijn32tab", "math/bits.deBruijn64tab", "linchpin/mark.keys", "linchpin/record.layouts"], apart := false, laid := [("math/bits.deBruijn32tab", laid_math_bits_deBruijn32tab), ("math/bits.deBruijn64tab", laid_math_bits_deBruijn64tab), ("internal/strconv.uint64pow10", laid_internal_strconv_uint64pow10), ("unicode/utf8.acceptRanges", laid_unicode_utf8_acceptRanges), ("linchpin/mark.keys", laid_linchpin_mark_keys), ("linchpin/record.layouts", laid_linchpin_record_layouts), ("unicode/utf8.first", laid_unicode_utf8_first)], narrowed := true }
def IndexReadsUptoSaid : Prop := indexReadsUptoRow.holds Tryz.pinned (OpenSpec.upto indexReadsSpec)

/-- 'linchpinlaw14.IndexBent', WHERE WHAT IT READS IS OF BULK AT MOST 1048576: true; the input reads as it did. -/
def indexBentUptoRow : OpenClaim := { program := "ytdafengdngglpaagreatdoor", sum := "3ea8e852fc3292728ef69bea3f3c35c7a4d960248c340c2d5e22278bf9f149c6", func := "linchpin/linchpinlaw14.IndexBent", spec := "indexBent", inPlace := ["internal/bytealg.IndexByteString", "internal/bytealg.IndexString", "internal/bytealg.CountString", "internal/abi.NoEscape", "internal/bytealg.MakeNoZero", "internal/bytealg.abigen_runtime_cmpstring"], unfollowed := true, recurses := true, named := ["internal/bytealg.MaxLen", "unicode/utf8.first", "unicode/utf8.acceptRanges", "internal/strconv.uint64pow10", "math/bits.deBruijn32tab", "math/bits.deBruijn64tab", "linchpin/mark.keys", "linchpin/record.layouts"], apart := false, laid := [("math/bits.deBruijn32tab", laid_math_bits_deBruijn32tab), ("math/bits.deBruijn64tab", laid_math_bits_deBruijn64tab), ("internal/strconv.uint64pow10", laid_internal_strconv_uint64pow10), ("unicode/utf8.acceptRanges", laid_unicode_utf8_acceptRanges), ("linchpin/mark.keys", laid_linchpin_mark_keys), ("linchpin/record.layouts", laid_linchpin_record_layouts), ("unicode/utf8.first", laid_unicode_utf8_first)], narrowed := true }
def IndexBentUptoSaid : Prop := indexBentUptoRow.holds Tryz.pinned (OpenSpec.upto indexBentSpec)

/-- 'linchpinlaw14.IndexBack', WHERE WHAT IT READS IS OF BULK AT MOST 1048576: true; the input reads as it did. -/
def indexBackUptoRow : OpenClaim := { program := "ytdafengdngglpaagreatdoor", sum := "3ea8e852fc3292728ef69bea3f3c35c7a4d960248c340c2d5e22278bf9f149c6", func := "linchpin/linchpinlaw14.IndexBack", spec := "indexBack", inPlace := ["internal/bytealg.IndexByteString", "internal/bytealg.IndexString", "internal/bytealg.CountString", "internal/abi.NoEscape", "internal/bytealg.MakeNoZero", "internal/bytealg.abigen_runtime_cmpstring"], unfollowed := true, recurses := true, named := ["internal/bytealg.MaxLen", "unicode/utf8.first", "unicode/utf8.acceptRanges", "internal/strconv.uint64pow10", "math/bits.deBruijn32tab", "math/bits.deBruijn64tab", "linchpin/mark.keys", "linchpin/record.layouts"], apart := false, laid := [("math/bits.deBruijn32tab", laid_math_bits_deBruijn32tab), ("math/bits.deBruijn64tab", laid_math_bits_deBruijn64tab), ("internal/strconv.uint64pow10", laid_internal_strconv_uint64pow10), ("unicode/utf8.acceptRanges", laid_unicode_utf8_acceptRanges), ("linchpin/mark.keys", laid_linchpin_mark_keys), ("linchpin/record.layouts", laid_linchpin_record_layouts), ("unicode/utf8.first", laid_unicode_utf8_first)], narrowed := true }
def IndexBackUptoSaid : Prop := indexBackUptoRow.holds Tryz.pinned (OpenSpec.upto indexBackSpec)

/-- 'linchpinlaw14.IndexSums', WHERE WHAT IT READS IS OF BULK AT MOST 1048576: true; the input reads as it did. -/
def indexSumsUptoRow : OpenClaim := { program := "ytdafengdngglpaagreatdoor", sum := "3ea8e852fc3292728ef69bea3f3c35c7a4d960248c340c2d5e22278bf9f149c6", func := "linchpin/linchpinlaw14.IndexSums", spec := "indexSums", inPlace := ["internal/bytealg.IndexByteString", "internal/bytealg.IndexString", "internal/bytealg.CountString", "internal/abi.NoEscape", "internal/bytealg.MakeNoZero", "internal/bytealg.abigen_runtime_cmpstring"], unfollowed := true, recurses := true, named := ["internal/bytealg.MaxLen", "unicode/utf8.first", "unicode/utf8.acceptRanges", "internal/strconv.uint64pow10", "math/bits.deBruijn32tab", "math/bits.deBruijn64tab", "linchpin/mark.keys", "linchpin/record.layouts"], apart := false, laid := [("math/bits.deBruijn32tab", laid_math_bits_deBruijn32tab), ("math/bits.deBruijn64tab", laid_math_bits_deBruijn64tab), ("internal/strconv.uint64pow10", laid_internal_strconv_uint64pow10), ("unicode/utf8.acceptRanges", laid_unicode_utf8_acceptRanges), ("linchpin/mark.keys", laid_linchpin_mark_keys), ("linchpin/record.layouts", laid_linchpin_record_layouts), ("unicode/utf8.first", laid_unicode_utf8_first)], narrowed := true }
def IndexSumsUptoSaid : Prop := indexSumsUptoRow.holds Tryz.pinned (OpenSpec.upto indexSumsSpec)

/-- 'linchpinlaw14.IndexGrows', WHERE WHAT IT READS IS OF BULK AT MOST 1048576: true; the input reads as it did. -/
def indexGrowsUptoRow : OpenClaim := { program := "ytdafengdngglpaagreatdoor", sum := "3ea8e852fc3292728ef69bea3f3c35c7a4d960248c340c2d5e22278bf9f149c6", func := "linchpin/linchpinlaw14.IndexGrows", spec := "indexGrows", inPlace := ["internal/bytealg.IndexByteString", "internal/bytealg.IndexString", "internal/bytealg.CountString", "internal/abi.NoEscape", "internal/bytealg.MakeNoZero", "internal/bytealg.abigen_runtime_cmpstring"], unfollowed := true, recurses := true, named := ["internal/bytealg.MaxLen", "unicode/utf8.first", "unicode/utf8.acceptRanges", "internal/strconv.uint64pow10", "math/bits.deBruijn32tab", "math/bits.deBruijn64tab", "linchpin/mark.keys", "linchpin/record.layouts"], apart := false, laid := [("math/bits.deBruijn32tab", laid_math_bits_deBruijn32tab), ("math/bits.deBruijn64tab", laid_math_bits_deBruijn64tab), ("internal/strconv.uint64pow10", laid_internal_strconv_uint64pow10), ("unicode/utf8.acceptRanges", laid_unicode_utf8_acceptRanges), ("linchpin/mark.keys", laid_linchpin_mark_keys), ("linchpin/record.layouts", laid_linchpin_record_layouts), ("unicode/utf8.first", laid_unicode_utf8_first)], narrowed := true }
def IndexGrowsUptoSaid : Prop := indexGrowsUptoRow.holds Tryz.pinned (OpenSpec.upto indexGrowsSpec)

end Rows
end Go.Proofs.YtdafengdngglpaaGreatDoor
