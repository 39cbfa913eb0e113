/-
  strings.Clone returns the string itself (for at most 2^48 bytes); nothing that was there is changed.
-/
import Derived.Test.YtndjdmbbndcohaaBase
import Derived.Test.YtndjdmbbndcohaaShelf
namespace Go.Proofs.Ytndjdmbbndcohaa
open Go.RowKit

theorem clone_any (s : ByteArray) (w : World) (hs : s.size ≤ 281474976710656) :
    Calls Try.prog 31 #[.string s] w fun e w' => e = .returned (.string s) ∧ Below w.heap.size w w' := by
  go_enter Try.func31, Try.ntmps31
  go_wp2_with (go_at_call 43; refine (Try.stringslite_Clone s _ hs).mono ?_; rintro e w' ⟨rfl, hb⟩)
  go_ret
  exact ⟨rfl, hb⟩

end Go.Proofs.Ytndjdmbbndcohaa
