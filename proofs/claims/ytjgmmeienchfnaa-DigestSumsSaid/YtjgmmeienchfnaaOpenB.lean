/-
  A parameter that is a slice of bytes, or of unsigned 64-bit numbers: it reads as a list, out of the row's own conditions.
-/
import Derived.Test.YtjgmmeienchfnaaLkS
import Derived.Test.YtjgmmeienchfnaaB9
import Derived.ChangeSlices
namespace Go.Proofs.Ytjgmmeienchfnaa
open Go.ChangeShapes Go.WideShapes Go.ChangeAt Go.RowKit
set_option maxRecDepth 100000
set_option linter.unusedVariables false
set_option linter.unusedSimpArgs false

theorem cell_spot9 {w : World} {a : Addr} {v : Value} (h : w.cell? a = some v) : a.spot = none := by
  unfold World.cell? at h
  split at h
  · split at h
    · cases h
    · rename_i hs; simpa using hs
  · cases h
theorem mk_self9 (p : ByteArray) : mkS p.data.toList = p := by unfold mkS; simp
theorem u64_flat (l : List UInt64) : l.flatMap u64C = l.map fun b => .int .u64 (b.toNat : Int) := by
  induction l with
  | nil => rfl
  | cons b l ih => rw [List.flatMap_cons, List.map_cons, ih]; rfl
theorem open_bytes {H : Type} {enc : TypeId × Value → H} {W : World} {base : Nat} {v : Value} {d : DataW H} {ps : List MemPlace} (hval : Value.okWide Try.prog W .any base 22 v)
    (h : DataW.Trod enc Try.prog W 0 (fun _ => true) true 22 v d ps) : ∃ (A : Option Addr) (cap : Nat) (l : List UInt8), v = .slice A l.length cap ∧ Reads u8C W W.heap.size A l ∧ l.length ≤ cap ∧ cap ≤ maxLen := by
  obtain ⟨A, len, cap, rfl⟩ := okWide_slice Try.underlying22 hval
  obtain ⟨fuel, hf⟩ := h
  rcases open_ints Try.underlying22 Try.underlying5 (by kernel_rfl) hf with ⟨hcs, _⟩ | ⟨a, len', cap', zs, hcs, _, hl, hm, hz, _, hcell, hwf⟩
  · simp [Value.cells] at hcs
    obtain ⟨rfl, rfl, rfl⟩ := hcs
    exact ⟨none, 0, [], rfl, fun h => by simp at h, Nat.le_refl _, Nat.zero_le _⟩
  · simp [Value.cells] at hcs
    obtain ⟨rfl, rfl, rfl⟩ := hcs
    simp only [if_true] at hz
    have hll : ((zs.take len).map fun z => UInt8.ofNat z.toNat).length = len := by rw [List.length_map, List.length_take]; omega
    refine ⟨some a, cap, (zs.take len).map fun z => UInt8.ofNat z.toNat, by rw [hll], fun h0 => ?_, by rw [hll]; omega, hm⟩
    rw [hll] at h0
    have c0 := hcell 0 (by omega)
    have sp : a.spot = none := by have := cell_spot9 c0; simpa [Addr.add] using this
    have hlt := cell_lt c0
    obtain ⟨b, o, s⟩ := a
    obtain rfl : s = none := sp
    rw [add_off] at hlt
    refine ⟨b, o, rfl, hlt, fun k u hk => ?_⟩
    rw [u8_flat, List.map_map] at hk
    obtain ⟨z, e1, e2⟩ := List.getElem?_map .. ▸ hk |> Option.map_eq_some_iff.1
    have hk2 : k < len := by have := (List.getElem?_eq_some_iff.1 e1).1; rw [List.length_take] at this; omega
    have hk3 : k < zs.length := by omega
    have e3 : zs[k]? = some z := by rw [List.getElem?_take_of_lt hk2] at e1; exact e1
    have hc := hcell k hk3
    rw [add_off] at hc
    rw [hc, ← e2]
    simp only [List.getD, e3, Option.getD_some, Function.comp]
    have hb := bounds_u8 (hwf z (List.mem_of_getElem? e3))
    have e4 : (((UInt8.ofNat z.toNat).toNat : Nat) : Int) = z := by rw [UInt8.toNat_ofNat', Nat.mod_eq_of_lt (by omega)]; omega
    rw [e4]
theorem open_u64s {H : Type} {enc : TypeId × Value → H} {W : World} {base : Nat} {v : Value} {d : DataW H} {ps : List MemPlace} (hval : Value.okWide Try.prog W .any base 31 v)
    (h : DataW.Trod enc Try.prog W 0 (fun _ => true) true 31 v d ps) : ∃ (A : Option Addr) (cap : Nat) (l : List UInt64), v = .slice A l.length cap ∧ Reads u64C W W.heap.size A l ∧ l.length ≤ cap ∧ cap ≤ maxLen := by
  obtain ⟨A, len, cap, rfl⟩ := okWide_slice Try.underlying31 hval
  obtain ⟨fuel, hf⟩ := h
  rcases open_ints Try.underlying31 Try.underlying24 (by kernel_rfl) hf with ⟨hcs, _⟩ | ⟨a, len', cap', zs, hcs, _, hl, hm, hz, _, hcell, hwf⟩
  · simp [Value.cells] at hcs
    obtain ⟨rfl, rfl, rfl⟩ := hcs
    exact ⟨none, 0, [], rfl, fun h => by simp at h, Nat.le_refl _, Nat.zero_le _⟩
  · simp [Value.cells] at hcs
    obtain ⟨rfl, rfl, rfl⟩ := hcs
    simp only [if_true] at hz
    have hll : ((zs.take len).map fun z => UInt64.ofNat z.toNat).length = len := by rw [List.length_map, List.length_take]; omega
    refine ⟨some a, cap, (zs.take len).map fun z => UInt64.ofNat z.toNat, by rw [hll], fun h0 => ?_, by rw [hll]; omega, hm⟩
    rw [hll] at h0
    have c0 := hcell 0 (by omega)
    have sp : a.spot = none := by have := cell_spot9 c0; simpa [Addr.add] using this
    have hlt := cell_lt c0
    obtain ⟨b, o, s⟩ := a
    obtain rfl : s = none := sp
    rw [add_off] at hlt
    refine ⟨b, o, rfl, hlt, fun k u hk => ?_⟩
    rw [u64_flat, List.map_map] at hk
    obtain ⟨z, e1, e2⟩ := List.getElem?_map .. ▸ hk |> Option.map_eq_some_iff.1
    have hk2 : k < len := by have := (List.getElem?_eq_some_iff.1 e1).1; rw [List.length_take] at this; omega
    have hk3 : k < zs.length := by omega
    have e3 : zs[k]? = some z := by rw [List.getElem?_take_of_lt hk2] at e1; exact e1
    have hc := hcell k hk3
    rw [add_off] at hc
    rw [hc, ← e2]
    simp only [List.getD, e3, Option.getD_some, Function.comp]
    have hb := bounds_u64 (hwf z (List.mem_of_getElem? e3))
    have e4 : (((UInt64.ofNat z.toNat).toNat : Nat) : Int) = z := by rw [UInt64.toNat_ofNat', Nat.mod_eq_of_lt (by omega)]; omega
    rw [e4]
end Go.Proofs.Ytjgmmeienchfnaa
