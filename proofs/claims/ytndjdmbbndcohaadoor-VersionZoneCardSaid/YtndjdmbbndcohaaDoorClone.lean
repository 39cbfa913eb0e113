/-
  strings.Clone returns the string itself (for at most 2^48 bytes); nothing that was there is changed.
-/
import Derived.Test.YtndjdmbbndcohaaDoorBase
import Derived.Test.YtndjdmbbndcohaaDoorShelf
namespace Go.Proofs.YtndjdmbbndcohaaDoor
open Go.RowKit

theorem clone_any (s : ByteArray) (w : World) (hs : s.size ≤ 281474976710656) :
    Calls Tryd.prog 17 #[.string s] w fun e w' => e = .returned (.string s) ∧ Below w.heap.size w w' := by
  go_enter Tryd.func17, Tryd.ntmps17
  go_wp2_with (go_at_call 32; refine (Tryd.stringslite_Clone s _ hs).mono ?_; rintro e w' ⟨rfl, hb⟩)
  go_ret
  exact ⟨rfl, hb⟩

end Go.Proofs.YtndjdmbbndcohaaDoor
