/-
  strings.Cut at a separator of one byte: cutAt. Condition: the string has fewer than 2^32 - 15 bytes.
-/
import Derived.Test.YtndjdmbbndcohaaDoorVer1
import Derived.Test.YtndjdmbbndcohaaDoorSplitR
import Derived.Test.YtndjdmbbndcohaaDoorShelf
import Derived.Shelf.RegionOpenPlain
import Derived.IntWalk
namespace Go.Proofs.YtndjdmbbndcohaaDoor
open Go.RowKit

theorem indexByte_one (c : UInt8) (l : List UInt8) : Lib.indexByte l c = Lib.index l [c] := by
  induction l with
  | nil => rfl
  | cons b r ih =>
    rw [Lib.indexByte, Lib.index, ih]
    by_cases h : b = c
    · subst h; simp
    · have e1 : ([c].isPrefixOf (b :: r)) = false := by simp [List.isPrefixOf]; exact fun e => h e.symm
      rw [e1]; simp [h]
theorem cutB (s : List UInt8) (c : UInt8) : Lib.cut (mkS s).data.toList (⟨#[c]⟩ : ByteArray).data.toList = cutAt c s := cutAt_cut c s

set_option maxHeartbeats 2000000 in
theorem scut_any (s : List UInt8) (c : UInt8) (w : World) (hs : (mkS s).size < 4294967281) :
    Calls Tryd.prog 37 #[.string (mkS s), .string ⟨#[c]⟩] w fun e w' => e = .returned (.tuple #[.string (mkS (cutAt c s).1), .string (mkS (cutAt c s).2.1), .bool (cutAt c s).2.2]) ∧ ∃ n, w' = w.drewN n := by
  have hc := cutB s c
  rcases Lib.indexB_cases (mkS s) ⟨#[c]⟩ with hix | ⟨i, hix, hroom⟩
  · obtain ⟨e1, e2, e3⟩ := Lib.cutB_miss (mkS s) ⟨#[c]⟩ hix
    rw [hc] at e1 e2 e3
    rw [show mkS (cutAt c s).1 = mkS s from e1, show mkS (cutAt c s).2.1 = ByteArray.empty from e2, e3]
    have hixb : Lib.indexByte (mkS s).data.toList c = -1 := (indexByte_one c _).trans hix
    have H := Lib.hid hixb
    clear hc e1 e2 e3 hix hixb
    go_enter Tryd.func37, Tryd.ntmps37
    go_wp2_with (go_at_call 44; refine (Tryd.stringslite_Index_one (mkS s) c _).mono ?_; rintro e w' ⟨rfl, rfl⟩; rw [H.out])
    go_ret3
    exact ⟨rfl, 0, rfl⟩
  · obtain ⟨e1, e2, e3⟩ := Lib.cutB_hit (mkS s) ⟨#[c]⟩ i hix
    rw [hc] at e1 e2 e3
    rw [show mkS (cutAt c s).1 = _ from e1, show mkS (cutAt c s).2.1 = _ from e2, e3]
    have hroom' : i + 1 ≤ (mkS s).size := hroom
    rw [show i + (⟨#[c]⟩ : ByteArray).size = i + 1 from rfl]
    have c1 : (0 : Int) ≤ ↑i := by omega
    have c2 : (↑i : Int) ≤ ↑(mkS s).size := by omega
    have c3 : (0 : Int) ≤ ↑i + 1 := by omega
    have c4 : (↑i + 1 : Int) ≤ ↑(mkS s).size := by omega
    have hixb : Lib.indexByte (mkS s).data.toList c = (i : Int) := (indexByte_one c _).trans hix
    have H := Lib.hid hixb
    clear hc e1 e2 e3 hix hixb
    go_enter Tryd.func37, Tryd.ntmps37
    go_wp2_with (go_at_call 44; refine (Tryd.stringslite_Index_one (mkS s) c _).mono ?_; rintro e w' ⟨rfl, rfl⟩; rw [H.out])
    have mixed : Tryd.prog.follows .mixedOrders = true := by kernel_rfl
    have hwr : IntKind.i64.wrap ((i : Int) + 1) = (i : Int) + 1 := IntWalk.i64_in _ (by omega)
    have hnat : ((i : Int) + 1).toNat = i + 1 := by omega
    go_region_o
    go_wp2
    go_ret3
    exact ⟨rfl, 1, rfl⟩

theorem cut_any (s : List UInt8) (c : UInt8) (w : World) (hs : s.length < 4294967281) :
    Calls Tryd.prog 26 #[.string (mkS s), .string ⟨#[c]⟩] w fun e w' => e = .returned (.tuple #[.string (mkS (cutAt c s).1), .string (mkS (cutAt c s).2.1), .bool (cutAt c s).2.2]) ∧ ∃ n, w' = w.drewN n := by
  have hs' : (mkS s).size < 4294967281 := by unfold mkS; simpa [ByteArray.size] using hs
  go_enter Tryd.func26, Tryd.ntmps26
  go_wp2_with (go_at_call 37; refine (scut_any s c _ hs').mono ?_; rintro e w' ⟨rfl, n, rfl⟩)
  go_ret3
  exact ⟨rfl, n, rfl⟩
theorem cutb_any (s : List UInt8) (c : UInt8) (w : World) (hs : s.length < 4294967281) :
    Calls Tryd.prog 26 #[.string (mkS s), .string ⟨#[c]⟩] w fun e w' => e = .returned (.tuple #[.string (mkS (cutAt c s).1), .string (mkS (cutAt c s).2.1), .bool (cutAt c s).2.2]) ∧ Below w.heap.size w w' :=
  (cut_any s c w hs).mono fun _ _ ⟨he, n, hw⟩ => ⟨he, by rw [hw]; exact below_drewN (Below.refl _ _) n⟩
end Go.Proofs.YtndjdmbbndcohaaDoor
