/-
  The document's own answer's SameTexts: it returns, of two slices of strings, whether they read as the same list; nothing that was there is changed. Conditions: none but that the slices read as lists.
-/
import Derived.Test.YtfeoljcinibkpaaDoorJoin
import Derived.Deep.QuietTactic
import Derived.BigQuiet
namespace Go.Proofs.YtfeoljcinibkpaaDoor
open Go.RowKit

theorem below_drewN {B : Nat} {a w : World} (h : Below B a w) (n : Nat) : Below B a (w.drewN n) := ⟨h.os, h.tape, h.output, h.size, h.block⟩

set_option maxHeartbeats 2000000 in
theorem same_any (va vb : Value) (la lb : List (List UInt8)) (w : World) (ha : ReadsT w w.heap.size va la) (hb : ReadsT w w.heap.size vb lb) (hn : la.length ≤ 1000000000) (_hn2 : lb.length ≤ 1000000000) :
    Calls Tryd.prog 18 #[va, vb] w fun e w' => e = .returned (.bool (decide (la = lb))) ∧ Below w.heap.size w w' := by
  obtain ⟨A, cap, rfl, hca⟩ := ha
  obtain ⟨B, cap2, rfl, hcb⟩ := hb
  by_cases hl : la.length = lb.length
  · have HL := Lib.hid hl
    have hlb : ((la.length : Int) != (lb.length : Int)) = false := by simp [hl]
    have hl1 : la.length ≤ lb.length := Nat.le_of_eq hl
    have hl2 : lb.length ≤ la.length := Nat.le_of_eq hl.symm
    clear hl
    go_enter Tryd.func18, Tryd.ntmps18
    go_wp2
    go_loopw [5] (fun iv wr => ∃ (k n : Nat), iv = .int .i64 k ∧ k ≤ la.length ∧ wr = w.drewN n ∧ Hid (la.take k = lb.take k)) (fun iv _ => la.length - (intOf iv).toNat)
    case atStart => exact ⟨0, 0, rfl, Nat.zero_le _, rfl, rfl⟩
    case round =>
      obtain ⟨k, n, rfl, hk, rfl, HT⟩ := hrel
      by_cases hp : k < la.length
      · have hpb : k < lb.length := by omega
        obtain ⟨ad, rfl, hlt, hc⟩ := hca (by omega)
        obtain ⟨ad2, rfl, hlt2, hc2⟩ := hcb (by omega)
        have h1 : w.cell? (ad.add k) = some (.string (mkS la[k])) := hc k hp
        have h2 : w.cell? (ad2.add k) = some (.string (mkS lb[k])) := hc2 k hpb
        clear hc hc2 hca hcb
        have i1 : (0 : Int) ≤ (k : Int) := by omega
        have i2 : (k : Int) < (la.length : Int) := by omega
        have i3 : (k : Int) < (lb.length : Int) := by omega
        by_cases hq : la[k] = lb[k]
        · have HQ := Lib.hid hq
          have hs : ((mkS la[k]).toList == (mkS lb[k]).toList) = true := by rw [hq]; simp
          clear hq
          go_wp2
          go_quiet (fail)
          go_wp2
          go_roundw
          case rel => exact ⟨k + 1, _, by go_num, by omega, rfl, by show _ = _; rw [take_snocL la k hp, take_snocL lb k hpb, HT.out, HQ.out]⟩
          case measure => simp [intOf]; omega
        · have hs : ((mkS la[k]).toList == (mkS lb[k]).toList) = false := by
            rw [Lib.toList_data, Lib.toList_data]; simpa [mkS] using hq
          go_wp2
          go_quiet (fail)
          go_wp2
          go_ret
          exact ⟨ret_bool (by rw [decide_eq_false]; intro h; apply hq; simp [h]), below_drewN (below_drewN (Below.refl _ _) _) _⟩
      · obtain rfl : k = la.length := by omega
        go_wp2
        go_ret
        exact ⟨ret_bool (by
          rw [eq_comm, decide_eq_true_iff]
          have h := HT.out
          rw [List.take_length, HL.out, List.take_length] at h
          exact h), below_drewN (Below.refl _ _) n⟩
  · have hlb : ((la.length : Int) != (lb.length : Int)) = true := by simp; omega
    go_enter Tryd.func18, Tryd.ntmps18
    go_wp2
    go_ret
    exact ⟨ret_bool (by rw [decide_eq_false]; intro h; rw [h] at hl; exact hl rfl), Below.refl _ _⟩
end Go.Proofs.YtfeoljcinibkpaaDoor
