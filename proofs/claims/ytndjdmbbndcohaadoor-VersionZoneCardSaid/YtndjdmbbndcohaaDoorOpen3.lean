/-
  A parameter that is a slice of ints: it reads as a list, out of the row's own conditions.
-/
import Derived.Test.YtndjdmbbndcohaaDoorLawKit
import Derived.Test.YtndjdmbbndcohaaDoorGen0
import Derived.ChangeSlices
namespace Go.Proofs.YtndjdmbbndcohaaDoor
open Go.ChangeShapes Go.WideShapes Go.ChangeAt Go.RowKit

set_option maxRecDepth 100000 in
theorem open_nums {H : Type} {enc : TypeId × Value → H} {W : World} {base : Nat} {v : Value} {d : DataW H} {ps : List MemPlace} (hval : Value.okWide Tryd.prog W .any base 22 v)
    (h : DataW.Trod enc Tryd.prog W 0 (fun _ => true) true 22 v d ps) : ∃ l : List Int, ReadsI W W.heap.size v l ∧ l.length ≤ maxLen := by
  obtain ⟨A, len, cap, rfl⟩ := okWide_slice Tryd.underlying22 hval
  obtain ⟨fuel, hf⟩ := h
  rcases open_ints Tryd.underlying22 Tryd.underlying3 (by kernel_rfl) hf with ⟨hcs, _⟩ | ⟨a, len', cap', zs, hcs, _, hl, hm, hz, _, hcell, _⟩
  · simp [Value.cells] at hcs
    obtain ⟨rfl, rfl, rfl⟩ := hcs
    exact ⟨[], ⟨none, 0, rfl, fun h => by cases h⟩, by simp⟩
  · simp [Value.cells] at hcs
    obtain ⟨rfl, rfl, rfl⟩ := hcs
    simp only [if_true] at hz
    have hlen : (zs.take len).length = len := by rw [List.length_take]; omega
    refine ⟨zs.take len, ⟨some a, cap, by rw [hlen], fun h0 => ⟨a, rfl, ?_, fun j hj => ?_⟩⟩, by rw [hlen]; omega⟩
    · have := cell_lt (hcell 0 (by omega))
      rwa [add_block] at this
    · have hj2 : j < zs.length := by omega
      rw [hcell j hj2, List.getElem_take]
      simp only [List.getD, List.getElem?_eq_getElem hj2, Option.getD_some]
end Go.Proofs.YtndjdmbbndcohaaDoor
