/-
  linchpinlaw0.Place: what it returns; nothing is changed.
-/
import Derived.Test.YtjgmmeienchfnaaRx2
import Derived.Test.YtjgmmeienchfnaaBase
import Derived.Deep.RegionHeld3
import Derived.IntWalk
import Derived.Outline
import Derived.StillTailTactics
namespace Go.Proofs.Ytjgmmeienchfnaa
open Go.RowKit

/-- The place of any number among n. -/
def plc (v n : Int) : Int := if v.tmod n < 0 then v.tmod n + n else v.tmod n
theorem tmod_in (v n : Int) (hn : 0 < n) : -n < v.tmod n ∧ v.tmod n < n := by
  rcases Int.lt_or_le v 0 with h | h
  · have h3 := Int.tmod_lt_of_pos (-v) hn
    have h4 := Int.tmod_nonneg n (show 0 ≤ -v by omega)
    rw [Int.neg_tmod] at h3 h4; omega
  · have h3 := Int.tmod_lt_of_pos v hn
    have h4 := Int.tmod_nonneg n h
    omega
theorem plc_in (v n : Int) (hn : 0 < n) : 0 ≤ plc v n ∧ plc v n < n := by
  obtain ⟨h1, h2⟩ := tmod_in v n hn
  unfold plc
  split <;> omega

theorem place_any (v n : Int) (w : World) (hn : 0 < n) (hn2 : n ≤ 1000000) :
    Calls Try.prog 20 #[.int .i64 v, .int .i64 n] w fun e w' => e = .returned (.int .i64 (plc v n)) ∧ w = w' := by
  obtain ⟨h1, h2⟩ := tmod_in v n hn
  have HP : Hid (plc v n = if v.tmod n < 0 then v.tmod n + n else v.tmod n) := rfl
  have hn0 : (n == 0) = false := by simp; omega
  have hw : IntKind.i64.wrap (v.tmod n) = v.tmod n := IntWalk.i64_in _ (by omega)
  obtain ⟨m, hm⟩ : ∃ m, v.tmod n = m := ⟨_, rfl⟩
  rw [hm] at h1 h2 HP hw
  by_cases h0 : m < 0
  · have hs : 0 ≤ m + n := by omega
    have hs2 : m + n ≤ 1000000 := by omega
    go_enter Try.func20, Try.ntmps20
    go_wp2
    go_ret
    exact ⟨ret_int (by rw [HP.out, if_pos h0]), rfl⟩
  · go_enter Try.func20, Try.ntmps20
    go_wp2
    go_ret
    exact ⟨ret_int (by rw [HP.out, if_neg (by omega)]), rfl⟩
end Go.Proofs.Ytjgmmeienchfnaa
