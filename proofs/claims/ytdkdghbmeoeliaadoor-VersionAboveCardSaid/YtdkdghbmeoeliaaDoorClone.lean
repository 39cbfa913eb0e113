/-
  strings.Clone returns the string itself (for at most 2^48 bytes); nothing that was there is changed.
-/
import Derived.Test.YtdkdghbmeoeliaaDoorBase
import Derived.Test.YtdkdghbmeoeliaaDoorShelf
namespace Go.Proofs.YtdkdghbmeoeliaaDoor
open Go.RowKit

theorem clone_any (s : ByteArray) (w : World) (hs : s.size ≤ 281474976710656) :
    Calls Tryd.prog 35 #[.string s] w fun e w' => e = .returned (.string s) ∧ Below w.heap.size w w' := by
  go_enter Tryd.func35, Tryd.ntmps35
  go_wp2_with (go_at_call 55; refine (Tryd.stringslite_Clone s _ hs).mono ?_; rintro e w' ⟨rfl, hb⟩)
  go_ret
  exact ⟨rfl, hb⟩

end Go.Proofs.YtdkdghbmeoeliaaDoor
