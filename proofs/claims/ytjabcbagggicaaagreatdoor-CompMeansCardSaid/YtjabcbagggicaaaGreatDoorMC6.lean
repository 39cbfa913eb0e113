/-
  What the statements' proofs lean on, part 6: each part begins with a remark that says what it proves and on what conditions.
-/
import Derived.Below
import Derived.ChangeSame
import Derived.ProofKit
import Derived.OpenShut
import Derived.LaidSub
import Derived.Carry
import Derived.SliceStrings
import Derived.Lib.LaidTab
import Derived.Deep.DeepHandedRow
import Derived.ChangeSlices
import Derived.Test.YtjabcbagggicaaaGreatDoorMC5

section
/-
  linchpinlaw0's Comp; linchpinlaw6's with, begins, over, says: what they return; nothing that was there is changed.
-/
namespace Go.Proofs.YtjabcbagggicaaaGreatDoor
open Go.RowKit
set_option maxRecDepth 100000
set_option linter.unusedVariables false
set_option linter.unusedSimpArgs false
set_option maxHeartbeats 2000000

theorem genCo_any (v : Value) (l : List Int) (i : Nat) (W : World) (hv : ReadsI W W.heap.size v l) (hl : l.length ≤ 9223372036854775807) (hi : i ≤ 100000) :
    Calls Tryz.prog 23 #[v, .int .i64 (i : Int)] W fun e w' => e = .returned (coV (genCo l i)) ∧ Below W.heap.size W w' := by
  obtain ⟨k5, e5, q5⟩ := plc_nat' (atL l (i + 5)) 9 (by omega)
  have f5 := from_in hv hl (i + 5) 9 (by omega) (by omega) (by omega) e5
  obtain ⟨k6, e6, q6⟩ := plc_nat' (atL l (i + 6)) 3 (by omega)
  have f6 := from_in hv hl (i + 6) 3 (by omega) (by omega) (by omega) e6
  have hk6 : k6 = 0 ∨ k6 = 1 ∨ k6 = 2 := by omega
  rcases hk6 with rfl | rfl | rfl
  · skip
    refine calls_ok (n := 47) Tryz.func23 rfl (by kernel_rfl) (by kernel_rfl) ?_
    refine ok_seq ?_
    refine ok_region ?_
    refine s_alloc_at (.agg #[.int .i64 0, .int .i64 0, .int .i64 0, .int .i64 0, .int .i64 0, .string ⟨#[]⟩, .string ⟨#[]⟩]) (by kernel_rfl) rfl (by kernel_rfl) (fun b1 => ?_)
    refine s_nil ?_
    refine fin_seq ?_
    refine ok_seq ?_
    refine ok_region ?_
    refine s_val (v) (by kernel_rfl) (fun _ => by kernel_rfl) ?_
    refine s_val (.int .i64 ((i : Nat) : Int)) (by kernel_rfl) (fun _ => by kernel_rfl) ?_
    refine s_sum (k := .i64) (((i + 5 : Nat) : Int)) (by kernel_rfl) (fun _ => by kernel_rfl) (IntWalk.i64_in _ (by omega)) ?_
    refine s_call (k := 58) (args := #[v, .int .i64 ((i + 5 : Nat) : Int), .int .i64 9]) (.int .i64 (k5 : Int)) (by kernel_rfl) (fun _ => by kernel_rfl) (fun w hO => f5 w hO.below) ?_
    refine s_sum (k := .i64) ((1 : Int) + (k5 : Int)) (by kernel_rfl) (fun _ => by kernel_rfl) (IntWalk.i64_in _ (by omega)) ?_
    refine s_val (v) (by kernel_rfl) (fun _ => by kernel_rfl) ?_
    refine s_val (.int .i64 ((i : Nat) : Int)) (by kernel_rfl) (fun _ => by kernel_rfl) ?_
    refine s_sum (k := .i64) (((i + 6 : Nat) : Int)) (by kernel_rfl) (fun _ => by kernel_rfl) (IntWalk.i64_in _ (by omega)) ?_
    refine s_call (k := 58) (args := #[v, .int .i64 ((i + 6 : Nat) : Int), .int .i64 3]) (.int .i64 0) (by kernel_rfl) (fun _ => by kernel_rfl) (fun w hO => f6 w hO.below) ?_
    refine s_val (.int .i64 1) (by kernel_rfl) (fun _ => by kernel_rfl) ?_
    refine s_val (v) (by kernel_rfl) (fun _ => by kernel_rfl) ?_
    refine s_val (.int .i64 ((i : Nat) : Int)) (by kernel_rfl) (fun _ => by kernel_rfl) ?_
    refine s_call (k := 27) (args := #[v, .int .i64 ((i : Nat) : Int)]) (verV (genV l i)) (by kernel_rfl) (fun _ => by kernel_rfl) (fun w hO => gen_any v l i w ((hv.below hO.below).more hO.below.size) hl (by omega)) ?_
    refine s_val (.agg #[.int .i64 ((1 : Int) + (k5 : Int)), .int .i64 1, .int .i64 ((genV l i).maj), .int .i64 ((genV l i).min), .int .i64 ((genV l i).pat), .string (mkS (genV l i).pre), .string (mkS (genV l i).build)]) (by kernel_rfl) (fun _ => by kernel_rfl) ?_
    refine s_alloc_at (.agg #[.int .i64 0, .int .i64 0, .int .i64 0, .int .i64 0, .int .i64 0, .string ⟨#[]⟩, .string ⟨#[]⟩]) (by kernel_rfl) rfl (by kernel_rfl) (fun b2 => ?_)
    refine s_store_at 0 ⟨b2, #[.int .i64 0, .int .i64 0, .int .i64 0, .int .i64 0, .int .i64 0, .string ⟨#[]⟩, .string ⟨#[]⟩], 26⟩ (off := 0) (.agg #[.int .i64 ((1 : Int) + (k5 : Int)), .int .i64 1, .int .i64 ((genV l i).maj), .int .i64 ((genV l i).min), .int .i64 ((genV l i).pat), .string (mkS (genV l i).pre), .string (mkS (genV l i).build)]) (by kernel_rfl) rfl rfl (by kernel_rfl) (by kernel_rfl) (by kernel_rfl) (by kernel_rfl) (by kernel_rfl) ?_
    refine s_nil ?_
    refine fin_seq ?_
    refine ok_seq ?_
    refine ok_seq ?_
    refine ok_region ?_
    refine s_val (.pointer (some ⟨b2, 0, none⟩)) (by kernel_rfl) (fun _ => by kernel_rfl) ?_
    refine s_load 0 ⟨b2, #[.int .i64 ((1 : Int) + (k5 : Int)), .int .i64 1, .int .i64 ((genV l i).maj), .int .i64 ((genV l i).min), .int .i64 ((genV l i).pat), .string (mkS (genV l i).pre), .string (mkS (genV l i).build)], 26⟩ (off := 0) (.int .i64 ((1 : Int) + (k5 : Int))) (by kernel_rfl) rfl (by kernel_rfl) (by kernel_rfl) (by kernel_rfl) ?_
    by_cases h1 : ((1 : Int) + (k5 : Int) : Int) = 9
    · skip
      refine s_dec (p := ((1 : Int) + (k5 : Int) : Int) = 9) true (by kernel_rfl) (fun _ => by kernel_rfl) (decide_eq_true (h1)) ?_
      refine s_nil ?_
      refine fin_seq ?_
      refine ok_true (by kernel_rfl) ?_
      refine ok_region ?_
      refine s_val (.pointer (some ⟨b2, 1, none⟩)) (by kernel_rfl) (fun _ => by kernel_rfl) ?_
      refine s_load 0 ⟨b2, #[.int .i64 ((1 : Int) + (k5 : Int)), .int .i64 1, .int .i64 ((genV l i).maj), .int .i64 ((genV l i).min), .int .i64 ((genV l i).pat), .string (mkS (genV l i).pre), .string (mkS (genV l i).build)], 26⟩ (off := 1) (.int .i64 1) (by kernel_rfl) rfl (by kernel_rfl) (by kernel_rfl) (by kernel_rfl) ?_
      refine s_val (.int .i64 0) (by kernel_rfl) (fun _ => by kernel_rfl) ?_
      refine s_val (.pointer (some ⟨b2, 1, none⟩)) (by kernel_rfl) (fun _ => by kernel_rfl) ?_
      refine s_store_at 0 ⟨b2, #[.int .i64 ((1 : Int) + (k5 : Int)), .int .i64 1, .int .i64 ((genV l i).maj), .int .i64 ((genV l i).min), .int .i64 ((genV l i).pat), .string (mkS (genV l i).pre), .string (mkS (genV l i).build)], 26⟩ (off := 1) (.int .i64 0) (by kernel_rfl) rfl rfl (by kernel_rfl) (by kernel_rfl) (by kernel_rfl) (by kernel_rfl) (by kernel_rfl) ?_
      refine s_nil ?_
      refine fin_seq ?_
      refine ok_seq ?_
      refine ok_region ?_
      refine s_val (.pointer (some ⟨b2, 2, none⟩)) (by kernel_rfl) (fun _ => by kernel_rfl) ?_
      refine s_val (.pointer (some ⟨b2, 6, none⟩)) (by kernel_rfl) (fun _ => by kernel_rfl) ?_
      refine s_store_at 0 ⟨b2, #[.int .i64 ((1 : Int) + (k5 : Int)), .int .i64 0, .int .i64 ((genV l i).maj), .int .i64 ((genV l i).min), .int .i64 ((genV l i).pat), .string (mkS (genV l i).pre), .string (mkS (genV l i).build)], 26⟩ (off := 6) (.string ⟨#[]⟩) (by kernel_rfl) rfl rfl (by kernel_rfl) (by kernel_rfl) (by kernel_rfl) (by kernel_rfl) (by kernel_rfl) ?_
      refine s_nil ?_
      refine fin_seq ?_
      refine ok_seq ?_
      refine ok_seq ?_
      refine ok_region ?_
      refine s_val (.pointer (some ⟨b2, 1, none⟩)) (by kernel_rfl) (fun _ => by kernel_rfl) ?_
      refine s_load 0 ⟨b2, #[.int .i64 ((1 : Int) + (k5 : Int)), .int .i64 0, .int .i64 ((genV l i).maj), .int .i64 ((genV l i).min), .int .i64 ((genV l i).pat), .string (mkS (genV l i).pre), .string ⟨#[]⟩], 26⟩ (off := 1) (.int .i64 0) (by kernel_rfl) rfl (by kernel_rfl) (by kernel_rfl) (by kernel_rfl) ?_
      refine s_val (.bool true) (by kernel_rfl) (fun _ => by kernel_rfl) ?_
      refine s_nil ?_
      refine fin_seq ?_
      refine ok_true (by kernel_rfl) ?_
      refine ok_seq ?_
      refine ok_region ?_
      refine s_val (.pointer (some ⟨b2, 2, none⟩)) (by kernel_rfl) (fun _ => by kernel_rfl) ?_
      refine s_val (.pointer (some ⟨b2, 5, none⟩)) (by kernel_rfl) (fun _ => by kernel_rfl) ?_
      refine s_store_at 0 ⟨b2, #[.int .i64 ((1 : Int) + (k5 : Int)), .int .i64 0, .int .i64 ((genV l i).maj), .int .i64 ((genV l i).min), .int .i64 ((genV l i).pat), .string (mkS (genV l i).pre), .string ⟨#[]⟩], 26⟩ (off := 5) (.string ⟨#[]⟩) (by kernel_rfl) rfl rfl (by kernel_rfl) (by kernel_rfl) (by kernel_rfl) (by kernel_rfl) (by kernel_rfl) ?_
      refine s_nil ?_
      refine fin_seq ?_
      refine ok_region ?_
      refine s_val (.pointer (some ⟨b2, 2, none⟩)) (by kernel_rfl) (fun _ => by kernel_rfl) ?_
      refine s_val (.pointer (some ⟨b2, 4, none⟩)) (by kernel_rfl) (fun _ => by kernel_rfl) ?_
      refine s_store_at 0 ⟨b2, #[.int .i64 ((1 : Int) + (k5 : Int)), .int .i64 0, .int .i64 ((genV l i).maj), .int .i64 ((genV l i).min), .int .i64 ((genV l i).pat), .string ⟨#[]⟩, .string ⟨#[]⟩], 26⟩ (off := 4) (.int .i64 0) (by kernel_rfl) rfl rfl (by kernel_rfl) (by kernel_rfl) (by kernel_rfl) (by kernel_rfl) (by kernel_rfl) ?_
      refine s_nil ?_
      refine fin_seq ?_
      refine ok_seq ?_
      refine ok_seq ?_
      refine ok_region ?_
      refine s_val (.pointer (some ⟨b2, 1, none⟩)) (by kernel_rfl) (fun _ => by kernel_rfl) ?_
      refine s_load 0 ⟨b2, #[.int .i64 ((1 : Int) + (k5 : Int)), .int .i64 0, .int .i64 ((genV l i).maj), .int .i64 ((genV l i).min), .int .i64 0, .string ⟨#[]⟩, .string ⟨#[]⟩], 26⟩ (off := 1) (.int .i64 0) (by kernel_rfl) rfl (by kernel_rfl) (by kernel_rfl) (by kernel_rfl) ?_
      refine s_val (.bool true) (by kernel_rfl) (fun _ => by kernel_rfl) ?_
      refine s_nil ?_
      refine fin_seq ?_
      refine ok_true (by kernel_rfl) ?_
      refine ok_region ?_
      refine s_val (.pointer (some ⟨b2, 2, none⟩)) (by kernel_rfl) (fun _ => by kernel_rfl) ?_
      refine s_val (.pointer (some ⟨b2, 3, none⟩)) (by kernel_rfl) (fun _ => by kernel_rfl) ?_
      refine s_store_at 0 ⟨b2, #[.int .i64 ((1 : Int) + (k5 : Int)), .int .i64 0, .int .i64 ((genV l i).maj), .int .i64 ((genV l i).min), .int .i64 0, .string ⟨#[]⟩, .string ⟨#[]⟩], 26⟩ (off := 3) (.int .i64 0) (by kernel_rfl) rfl rfl (by kernel_rfl) (by kernel_rfl) (by kernel_rfl) (by kernel_rfl) (by kernel_rfl) ?_
      refine s_nil ?_
      refine fin_seq ?_
      refine ok_seq ?_
      refine ok_seq ?_
      refine ok_region ?_
      refine s_val (.pointer (some ⟨b2, 1, none⟩)) (by kernel_rfl) (fun _ => by kernel_rfl) ?_
      refine s_load 0 ⟨b2, #[.int .i64 ((1 : Int) + (k5 : Int)), .int .i64 0, .int .i64 ((genV l i).maj), .int .i64 0, .int .i64 0, .string ⟨#[]⟩, .string ⟨#[]⟩], 26⟩ (off := 1) (.int .i64 0) (by kernel_rfl) rfl (by kernel_rfl) (by kernel_rfl) (by kernel_rfl) ?_
      refine s_val (.bool true) (by kernel_rfl) (fun _ => by kernel_rfl) ?_
      refine s_nil ?_
      refine fin_seq ?_
      refine ok_true (by kernel_rfl) ?_
      refine ok_region ?_
      refine s_val (.pointer (some ⟨b2, 2, none⟩)) (by kernel_rfl) (fun _ => by kernel_rfl) ?_
      refine s_val (.pointer (some ⟨b2, 2, none⟩)) (by kernel_rfl) (fun _ => by kernel_rfl) ?_
      refine s_store_at 0 ⟨b2, #[.int .i64 ((1 : Int) + (k5 : Int)), .int .i64 0, .int .i64 ((genV l i).maj), .int .i64 0, .int .i64 0, .string ⟨#[]⟩, .string ⟨#[]⟩], 26⟩ (off := 2) (.int .i64 0) (by kernel_rfl) rfl rfl (by kernel_rfl) (by kernel_rfl) (by kernel_rfl) (by kernel_rfl) (by kernel_rfl) ?_
      refine s_nil ?_
      refine fin_seq ?_
      refine ok_seq ?_
      refine ok_region ?_
      refine s_load 0 ⟨b2, #[.int .i64 ((1 : Int) + (k5 : Int)), .int .i64 0, .int .i64 0, .int .i64 0, .int .i64 0, .string ⟨#[]⟩, .string ⟨#[]⟩], 26⟩ (off := 0) (.agg #[.int .i64 ((1 : Int) + (k5 : Int)), .int .i64 0, .int .i64 0, .int .i64 0, .int .i64 0, .string ⟨#[]⟩, .string ⟨#[]⟩]) (by kernel_rfl) rfl (by kernel_rfl) (by kernel_rfl) (by kernel_rfl) ?_
      refine s_store_at 1 ⟨b1, #[.int .i64 0, .int .i64 0, .int .i64 0, .int .i64 0, .int .i64 0, .string ⟨#[]⟩, .string ⟨#[]⟩], 26⟩ (off := 0) (.agg #[.int .i64 ((1 : Int) + (k5 : Int)), .int .i64 0, .int .i64 0, .int .i64 0, .int .i64 0, .string ⟨#[]⟩, .string ⟨#[]⟩]) (by kernel_rfl) rfl rfl (by kernel_rfl) (by kernel_rfl) (by kernel_rfl) (by kernel_rfl) (by kernel_rfl) ?_
      refine s_nil ?_
      refine fin_seq ?_
      refine ok_ret ?_
      refine fin_cell 1 ⟨b1, #[.int .i64 ((1 : Int) + (k5 : Int)), .int .i64 0, .int .i64 0, .int .i64 0, .int .i64 0, .string ⟨#[]⟩, .string ⟨#[]⟩], 26⟩ (off := 0) (.agg #[.int .i64 ((1 : Int) + (k5 : Int)), .int .i64 0, .int .i64 0, .int .i64 0, .int .i64 0, .string ⟨#[]⟩, .string ⟨#[]⟩]) Tryz.results23 (by kernel_rfl) (by kernel_rfl) (by kernel_rfl) ?_
      exact fun w hO => ⟨by rw [show coV (genCo l i) = .agg #[.int .i64 ((1 : Int) + (k5 : Int)), .int .i64 0, .int .i64 0, .int .i64 0, .int .i64 0, .string ⟨#[]⟩, .string ⟨#[]⟩] from by unfold genCo toldV coV; rw [show plc (atL l (i + 5)) 9 = _ from e5, show plc (atL l (i + 6)) 3 = _ from e6]; simp [h1]; try rfl], hO.below⟩
    · skip
      refine s_dec (p := ((1 : Int) + (k5 : Int) : Int) = 9) false (by kernel_rfl) (fun _ => by kernel_rfl) (decide_eq_false (h1)) ?_
      refine s_nil ?_
      refine fin_seq ?_
      refine ok_false (by kernel_rfl) ?_
      refine ok_skip ?_
      refine fin_seq ?_
      refine ok_seq ?_
      refine ok_region ?_
      refine s_val (.pointer (some ⟨b2, 2, none⟩)) (by kernel_rfl) (fun _ => by kernel_rfl) ?_
      refine s_val (.pointer (some ⟨b2, 6, none⟩)) (by kernel_rfl) (fun _ => by kernel_rfl) ?_
      refine s_store_at 0 ⟨b2, #[.int .i64 ((1 : Int) + (k5 : Int)), .int .i64 1, .int .i64 ((genV l i).maj), .int .i64 ((genV l i).min), .int .i64 ((genV l i).pat), .string (mkS (genV l i).pre), .string (mkS (genV l i).build)], 26⟩ (off := 6) (.string ⟨#[]⟩) (by kernel_rfl) rfl rfl (by kernel_rfl) (by kernel_rfl) (by kernel_rfl) (by kernel_rfl) (by kernel_rfl) ?_
      refine s_nil ?_
      refine fin_seq ?_
      refine ok_seq ?_
      refine ok_seq ?_
      refine ok_region ?_
      refine s_val (.pointer (some ⟨b2, 1, none⟩)) (by kernel_rfl) (fun _ => by kernel_rfl) ?_
      refine s_load 0 ⟨b2, #[.int .i64 ((1 : Int) + (k5 : Int)), .int .i64 1, .int .i64 ((genV l i).maj), .int .i64 ((genV l i).min), .int .i64 ((genV l i).pat), .string (mkS (genV l i).pre), .string ⟨#[]⟩], 26⟩ (off := 1) (.int .i64 1) (by kernel_rfl) rfl (by kernel_rfl) (by kernel_rfl) (by kernel_rfl) ?_
      refine s_val (.bool true) (by kernel_rfl) (fun _ => by kernel_rfl) ?_
      refine s_nil ?_
      refine fin_seq ?_
      refine ok_true (by kernel_rfl) ?_
      refine ok_seq ?_
      refine ok_region ?_
      refine s_val (.pointer (some ⟨b2, 2, none⟩)) (by kernel_rfl) (fun _ => by kernel_rfl) ?_
      refine s_val (.pointer (some ⟨b2, 5, none⟩)) (by kernel_rfl) (fun _ => by kernel_rfl) ?_
      refine s_store_at 0 ⟨b2, #[.int .i64 ((1 : Int) + (k5 : Int)), .int .i64 1, .int .i64 ((genV l i).maj), .int .i64 ((genV l i).min), .int .i64 ((genV l i).pat), .string (mkS (genV l i).pre), .string ⟨#[]⟩], 26⟩ (off := 5) (.string ⟨#[]⟩) (by kernel_rfl) rfl rfl (by kernel_rfl) (by kernel_rfl) (by kernel_rfl) (by kernel_rfl) (by kernel_rfl) ?_
      refine s_nil ?_
      refine fin_seq ?_
      refine ok_region ?_
      refine s_val (.pointer (some ⟨b2, 2, none⟩)) (by kernel_rfl) (fun _ => by kernel_rfl) ?_
      refine s_val (.pointer (some ⟨b2, 4, none⟩)) (by kernel_rfl) (fun _ => by kernel_rfl) ?_
      refine s_store_at 0 ⟨b2, #[.int .i64 ((1 : Int) + (k5 : Int)), .int .i64 1, .int .i64 ((genV l i).maj), .int .i64 ((genV l i).min), .int .i64 ((genV l i).pat), .string ⟨#[]⟩, .string ⟨#[]⟩], 26⟩ (off := 4) (.int .i64 0) (by kernel_rfl) rfl rfl (by kernel_rfl) (by kernel_rfl) (by kernel_rfl) (by kernel_rfl) (by kernel_rfl) ?_
      refine s_nil ?_
      refine fin_seq ?_
      refine ok_seq ?_
      refine ok_seq ?_
      refine ok_region ?_
      refine s_val (.pointer (some ⟨b2, 1, none⟩)) (by kernel_rfl) (fun _ => by kernel_rfl) ?_
      refine s_load 0 ⟨b2, #[.int .i64 ((1 : Int) + (k5 : Int)), .int .i64 1, .int .i64 ((genV l i).maj), .int .i64 ((genV l i).min), .int .i64 0, .string ⟨#[]⟩, .string ⟨#[]⟩], 26⟩ (off := 1) (.int .i64 1) (by kernel_rfl) rfl (by kernel_rfl) (by kernel_rfl) (by kernel_rfl) ?_
      refine s_val (.bool true) (by kernel_rfl) (fun _ => by kernel_rfl) ?_
      refine s_nil ?_
      refine fin_seq ?_
      refine ok_true (by kernel_rfl) ?_
      refine ok_region ?_
      refine s_val (.pointer (some ⟨b2, 2, none⟩)) (by kernel_rfl) (fun _ => by kernel_rfl) ?_
      refine s_val (.pointer (some ⟨b2, 3, none⟩)) (by kernel_rfl) (fun _ => by kernel_rfl) ?_
      refine s_store_at 0 ⟨b2, #[.int .i64 ((1 : Int) + (k5 : Int)), .int .i64 1, .int .i64 ((genV l i).maj), .int .i64 ((genV l i).min), .int .i64 0, .string ⟨#[]⟩, .string ⟨#[]⟩], 26⟩ (off := 3) (.int .i64 0) (by kernel_rfl) rfl rfl (by kernel_rfl) (by kernel_rfl) (by kernel_rfl) (by kernel_rfl) (by kernel_rfl) ?_
      refine s_nil ?_
      refine fin_seq ?_
      refine ok_seq ?_
      refine ok_seq ?_
      refine ok_region ?_
      refine s_val (.pointer (some ⟨b2, 1, none⟩)) (by kernel_rfl) (fun _ => by kernel_rfl) ?_
      refine s_load 0 ⟨b2, #[.int .i64 ((1 : Int) + (k5 : Int)), .int .i64 1, .int .i64 ((genV l i).maj), .int .i64 0, .int .i64 0, .string ⟨#[]⟩, .string ⟨#[]⟩], 26⟩ (off := 1) (.int .i64 1) (by kernel_rfl) rfl (by kernel_rfl) (by kernel_rfl) (by kernel_rfl) ?_
      refine s_val (.bool false) (by kernel_rfl) (fun _ => by kernel_rfl) ?_
      refine s_nil ?_
      refine fin_seq ?_
      refine ok_false (by kernel_rfl) ?_
      refine ok_skip ?_
      refine fin_seq ?_
      refine ok_seq ?_
      refine ok_region ?_
      refine s_load 0 ⟨b2, #[.int .i64 ((1 : Int) + (k5 : Int)), .int .i64 1, .int .i64 ((genV l i).maj), .int .i64 0, .int .i64 0, .string ⟨#[]⟩, .string ⟨#[]⟩], 26⟩ (off := 0) (.agg #[.int .i64 ((1 : Int) + (k5 : Int)), .int .i64 1, .int .i64 ((genV l i).maj), .int .i64 0, .int .i64 0, .string ⟨#[]⟩, .string ⟨#[]⟩]) (by kernel_rfl) rfl (by kernel_rfl) (by kernel_rfl) (by kernel_rfl) ?_
      refine s_store_at 1 ⟨b1, #[.int .i64 0, .int .i64 0, .int .i64 0, .int .i64 0, .int .i64 0, .string ⟨#[]⟩, .string ⟨#[]⟩], 26⟩ (off := 0) (.agg #[.int .i64 ((1 : Int) + (k5 : Int)), .int .i64 1, .int .i64 ((genV l i).maj), .int .i64 0, .int .i64 0, .string ⟨#[]⟩, .string ⟨#[]⟩]) (by kernel_rfl) rfl rfl (by kernel_rfl) (by kernel_rfl) (by kernel_rfl) (by kernel_rfl) (by kernel_rfl) ?_
      refine s_nil ?_
      refine fin_seq ?_
      refine ok_ret ?_
      refine fin_cell 1 ⟨b1, #[.int .i64 ((1 : Int) + (k5 : Int)), .int .i64 1, .int .i64 ((genV l i).maj), .int .i64 0, .int .i64 0, .string ⟨#[]⟩, .string ⟨#[]⟩], 26⟩ (off := 0) (.agg #[.int .i64 ((1 : Int) + (k5 : Int)), .int .i64 1, .int .i64 ((genV l i).maj), .int .i64 0, .int .i64 0, .string ⟨#[]⟩, .string ⟨#[]⟩]) Tryz.results23 (by kernel_rfl) (by kernel_rfl) (by kernel_rfl) ?_
      exact fun w hO => ⟨by rw [show coV (genCo l i) = .agg #[.int .i64 ((1 : Int) + (k5 : Int)), .int .i64 1, .int .i64 ((genV l i).maj), .int .i64 0, .int .i64 0, .string ⟨#[]⟩, .string ⟨#[]⟩] from by unfold genCo toldV coV; rw [show plc (atL l (i + 5)) 9 = _ from e5, show plc (atL l (i + 6)) 3 = _ from e6]; simp [h1]; try rfl], hO.below⟩
  · skip
    refine calls_ok (n := 47) Tryz.func23 rfl (by kernel_rfl) (by kernel_rfl) ?_
    refine ok_seq ?_
    refine ok_region ?_
    refine s_alloc_at (.agg #[.int .i64 0, .int .i64 0, .int .i64 0, .int .i64 0, .int .i64 0, .string ⟨#[]⟩, .string ⟨#[]⟩]) (by kernel_rfl) rfl (by kernel_rfl) (fun b1 => ?_)
    refine s_nil ?_
    refine fin_seq ?_
    refine ok_seq ?_
    refine ok_region ?_
    refine s_val (v) (by kernel_rfl) (fun _ => by kernel_rfl) ?_
    refine s_val (.int .i64 ((i : Nat) : Int)) (by kernel_rfl) (fun _ => by kernel_rfl) ?_
    refine s_sum (k := .i64) (((i + 5 : Nat) : Int)) (by kernel_rfl) (fun _ => by kernel_rfl) (IntWalk.i64_in _ (by omega)) ?_
    refine s_call (k := 58) (args := #[v, .int .i64 ((i + 5 : Nat) : Int), .int .i64 9]) (.int .i64 (k5 : Int)) (by kernel_rfl) (fun _ => by kernel_rfl) (fun w hO => f5 w hO.below) ?_
    refine s_sum (k := .i64) ((1 : Int) + (k5 : Int)) (by kernel_rfl) (fun _ => by kernel_rfl) (IntWalk.i64_in _ (by omega)) ?_
    refine s_val (v) (by kernel_rfl) (fun _ => by kernel_rfl) ?_
    refine s_val (.int .i64 ((i : Nat) : Int)) (by kernel_rfl) (fun _ => by kernel_rfl) ?_
    refine s_sum (k := .i64) (((i + 6 : Nat) : Int)) (by kernel_rfl) (fun _ => by kernel_rfl) (IntWalk.i64_in _ (by omega)) ?_
    refine s_call (k := 58) (args := #[v, .int .i64 ((i + 6 : Nat) : Int), .int .i64 3]) (.int .i64 1) (by kernel_rfl) (fun _ => by kernel_rfl) (fun w hO => f6 w hO.below) ?_
    refine s_val (.int .i64 2) (by kernel_rfl) (fun _ => by kernel_rfl) ?_
    refine s_val (v) (by kernel_rfl) (fun _ => by kernel_rfl) ?_
    refine s_val (.int .i64 ((i : Nat) : Int)) (by kernel_rfl) (fun _ => by kernel_rfl) ?_
    refine s_call (k := 27) (args := #[v, .int .i64 ((i : Nat) : Int)]) (verV (genV l i)) (by kernel_rfl) (fun _ => by kernel_rfl) (fun w hO => gen_any v l i w ((hv.below hO.below).more hO.below.size) hl (by omega)) ?_
    refine s_val (.agg #[.int .i64 ((1 : Int) + (k5 : Int)), .int .i64 2, .int .i64 ((genV l i).maj), .int .i64 ((genV l i).min), .int .i64 ((genV l i).pat), .string (mkS (genV l i).pre), .string (mkS (genV l i).build)]) (by kernel_rfl) (fun _ => by kernel_rfl) ?_
    refine s_alloc_at (.agg #[.int .i64 0, .int .i64 0, .int .i64 0, .int .i64 0, .int .i64 0, .string ⟨#[]⟩, .string ⟨#[]⟩]) (by kernel_rfl) rfl (by kernel_rfl) (fun b2 => ?_)
    refine s_store_at 0 ⟨b2, #[.int .i64 0, .int .i64 0, .int .i64 0, .int .i64 0, .int .i64 0, .string ⟨#[]⟩, .string ⟨#[]⟩], 26⟩ (off := 0) (.agg #[.int .i64 ((1 : Int) + (k5 : Int)), .int .i64 2, .int .i64 ((genV l i).maj), .int .i64 ((genV l i).min), .int .i64 ((genV l i).pat), .string (mkS (genV l i).pre), .string (mkS (genV l i).build)]) (by kernel_rfl) rfl rfl (by kernel_rfl) (by kernel_rfl) (by kernel_rfl) (by kernel_rfl) (by kernel_rfl) ?_
    refine s_nil ?_
    refine fin_seq ?_
    refine ok_seq ?_
    refine ok_seq ?_
    refine ok_region ?_
    refine s_val (.pointer (some ⟨b2, 0, none⟩)) (by kernel_rfl) (fun _ => by kernel_rfl) ?_
    refine s_load 0 ⟨b2, #[.int .i64 ((1 : Int) + (k5 : Int)), .int .i64 2, .int .i64 ((genV l i).maj), .int .i64 ((genV l i).min), .int .i64 ((genV l i).pat), .string (mkS (genV l i).pre), .string (mkS (genV l i).build)], 26⟩ (off := 0) (.int .i64 ((1 : Int) + (k5 : Int))) (by kernel_rfl) rfl (by kernel_rfl) (by kernel_rfl) (by kernel_rfl) ?_
    by_cases h1 : ((1 : Int) + (k5 : Int) : Int) = 9
    · skip
      refine s_dec (p := ((1 : Int) + (k5 : Int) : Int) = 9) true (by kernel_rfl) (fun _ => by kernel_rfl) (decide_eq_true (h1)) ?_
      refine s_nil ?_
      refine fin_seq ?_
      refine ok_true (by kernel_rfl) ?_
      refine ok_region ?_
      refine s_val (.pointer (some ⟨b2, 1, none⟩)) (by kernel_rfl) (fun _ => by kernel_rfl) ?_
      refine s_load 0 ⟨b2, #[.int .i64 ((1 : Int) + (k5 : Int)), .int .i64 2, .int .i64 ((genV l i).maj), .int .i64 ((genV l i).min), .int .i64 ((genV l i).pat), .string (mkS (genV l i).pre), .string (mkS (genV l i).build)], 26⟩ (off := 1) (.int .i64 2) (by kernel_rfl) rfl (by kernel_rfl) (by kernel_rfl) (by kernel_rfl) ?_
      refine s_val (.int .i64 1) (by kernel_rfl) (fun _ => by kernel_rfl) ?_
      refine s_val (.pointer (some ⟨b2, 1, none⟩)) (by kernel_rfl) (fun _ => by kernel_rfl) ?_
      refine s_store_at 0 ⟨b2, #[.int .i64 ((1 : Int) + (k5 : Int)), .int .i64 2, .int .i64 ((genV l i).maj), .int .i64 ((genV l i).min), .int .i64 ((genV l i).pat), .string (mkS (genV l i).pre), .string (mkS (genV l i).build)], 26⟩ (off := 1) (.int .i64 1) (by kernel_rfl) rfl rfl (by kernel_rfl) (by kernel_rfl) (by kernel_rfl) (by kernel_rfl) (by kernel_rfl) ?_
      refine s_nil ?_
      refine fin_seq ?_
      refine ok_seq ?_
      refine ok_region ?_
      refine s_val (.pointer (some ⟨b2, 2, none⟩)) (by kernel_rfl) (fun _ => by kernel_rfl) ?_
      refine s_val (.pointer (some ⟨b2, 6, none⟩)) (by kernel_rfl) (fun _ => by kernel_rfl) ?_
      refine s_store_at 0 ⟨b2, #[.int .i64 ((1 : Int) + (k5 : Int)), .int .i64 1, .int .i64 ((genV l i).maj), .int .i64 ((genV l i).min), .int .i64 ((genV l i).pat), .string (mkS (genV l i).pre), .string (mkS (genV l i).build)], 26⟩ (off := 6) (.string ⟨#[]⟩) (by kernel_rfl) rfl rfl (by kernel_rfl) (by kernel_rfl) (by kernel_rfl) (by kernel_rfl) (by kernel_rfl) ?_
      refine s_nil ?_
      refine fin_seq ?_
      refine ok_seq ?_
      refine ok_seq ?_
      refine ok_region ?_
      refine s_val (.pointer (some ⟨b2, 1, none⟩)) (by kernel_rfl) (fun _ => by kernel_rfl) ?_
      refine s_load 0 ⟨b2, #[.int .i64 ((1 : Int) + (k5 : Int)), .int .i64 1, .int .i64 ((genV l i).maj), .int .i64 ((genV l i).min), .int .i64 ((genV l i).pat), .string (mkS (genV l i).pre), .string ⟨#[]⟩], 26⟩ (off := 1) (.int .i64 1) (by kernel_rfl) rfl (by kernel_rfl) (by kernel_rfl) (by kernel_rfl) ?_
      refine s_val (.bool true) (by kernel_rfl) (fun _ => by kernel_rfl) ?_
      refine s_nil ?_
      refine fin_seq ?_
      refine ok_true (by kernel_rfl) ?_
      refine ok_seq ?_
      refine ok_region ?_
      refine s_val (.pointer (some ⟨b2, 2, none⟩)) (by kernel_rfl) (fun _ => by kernel_rfl) ?_
      refine s_val (.pointer (some ⟨b2, 5, none⟩)) (by kernel_rfl) (fun _ => by kernel_rfl) ?_
      refine s_store_at 0 ⟨b2, #[.int .i64 ((1 : Int) + (k5 : Int)), .int .i64 1, .int .i64 ((genV l i).maj), .int .i64 ((genV l i).min), .int .i64 ((genV l i).pat), .string (mkS (genV l i).pre), .string ⟨#[]⟩], 26⟩ (off := 5) (.string ⟨#[]⟩) (by kernel_rfl) rfl rfl (by kernel_rfl) (by kernel_rfl) (by kernel_rfl) (by kernel_rfl) (by kernel_rfl) ?_
      refine s_nil ?_
      refine fin_seq ?_
      refine ok_region ?_
      refine s_val (.pointer (some ⟨b2, 2, none⟩)) (by kernel_rfl) (fun _ => by kernel_rfl) ?_
      refine s_val (.pointer (some ⟨b2, 4, none⟩)) (by kernel_rfl) (fun _ => by kernel_rfl) ?_
      refine s_store_at 0 ⟨b2, #[.int .i64 ((1 : Int) + (k5 : Int)), .int .i64 1, .int .i64 ((genV l i).maj), .int .i64 ((genV l i).min), .int .i64 ((genV l i).pat), .string ⟨#[]⟩, .string ⟨#[]⟩], 26⟩ (off := 4) (.int .i64 0) (by kernel_rfl) rfl rfl (by kernel_rfl) (by kernel_rfl) (by kernel_rfl) (by kernel_rfl) (by kernel_rfl) ?_
      refine s_nil ?_
      refine fin_seq ?_
      refine ok_seq ?_
      refine ok_seq ?_
      refine ok_region ?_
      refine s_val (.pointer (some ⟨b2, 1, none⟩)) (by kernel_rfl) (fun _ => by kernel_rfl) ?_
      refine s_load 0 ⟨b2, #[.int .i64 ((1 : Int) + (k5 : Int)), .int .i64 1, .int .i64 ((genV l i).maj), .int .i64 ((genV l i).min), .int .i64 0, .string ⟨#[]⟩, .string ⟨#[]⟩], 26⟩ (off := 1) (.int .i64 1) (by kernel_rfl) rfl (by kernel_rfl) (by kernel_rfl) (by kernel_rfl) ?_
      refine s_val (.bool true) (by kernel_rfl) (fun _ => by kernel_rfl) ?_
      refine s_nil ?_
      refine fin_seq ?_
      refine ok_true (by kernel_rfl) ?_
      refine ok_region ?_
      refine s_val (.pointer (some ⟨b2, 2, none⟩)) (by kernel_rfl) (fun _ => by kernel_rfl) ?_
      refine s_val (.pointer (some ⟨b2, 3, none⟩)) (by kernel_rfl) (fun _ => by kernel_rfl) ?_
      refine s_store_at 0 ⟨b2, #[.int .i64 ((1 : Int) + (k5 : Int)), .int .i64 1, .int .i64 ((genV l i).maj), .int .i64 ((genV l i).min), .int .i64 0, .string ⟨#[]⟩, .string ⟨#[]⟩], 26⟩ (off := 3) (.int .i64 0) (by kernel_rfl) rfl rfl (by kernel_rfl) (by kernel_rfl) (by kernel_rfl) (by kernel_rfl) (by kernel_rfl) ?_
      refine s_nil ?_
      refine fin_seq ?_
      refine ok_seq ?_
      refine ok_seq ?_
      refine ok_region ?_
      refine s_val (.pointer (some ⟨b2, 1, none⟩)) (by kernel_rfl) (fun _ => by kernel_rfl) ?_
      refine s_load 0 ⟨b2, #[.int .i64 ((1 : Int) + (k5 : Int)), .int .i64 1, .int .i64 ((genV l i).maj), .int .i64 0, .int .i64 0, .string ⟨#[]⟩, .string ⟨#[]⟩], 26⟩ (off := 1) (.int .i64 1) (by kernel_rfl) rfl (by kernel_rfl) (by kernel_rfl) (by kernel_rfl) ?_
      refine s_val (.bool false) (by kernel_rfl) (fun _ => by kernel_rfl) ?_
      refine s_nil ?_
      refine fin_seq ?_
      refine ok_false (by kernel_rfl) ?_
      refine ok_skip ?_
      refine fin_seq ?_
      refine ok_seq ?_
      refine ok_region ?_
      refine s_load 0 ⟨b2, #[.int .i64 ((1 : Int) + (k5 : Int)), .int .i64 1, .int .i64 ((genV l i).maj), .int .i64 0, .int .i64 0, .string ⟨#[]⟩, .string ⟨#[]⟩], 26⟩ (off := 0) (.agg #[.int .i64 ((1 : Int) + (k5 : Int)), .int .i64 1, .int .i64 ((genV l i).maj), .int .i64 0, .int .i64 0, .string ⟨#[]⟩, .string ⟨#[]⟩]) (by kernel_rfl) rfl (by kernel_rfl) (by kernel_rfl) (by kernel_rfl) ?_
      refine s_store_at 1 ⟨b1, #[.int .i64 0, .int .i64 0, .int .i64 0, .int .i64 0, .int .i64 0, .string ⟨#[]⟩, .string ⟨#[]⟩], 26⟩ (off := 0) (.agg #[.int .i64 ((1 : Int) + (k5 : Int)), .int .i64 1, .int .i64 ((genV l i).maj), .int .i64 0, .int .i64 0, .string ⟨#[]⟩, .string ⟨#[]⟩]) (by kernel_rfl) rfl rfl (by kernel_rfl) (by kernel_rfl) (by kernel_rfl) (by kernel_rfl) (by kernel_rfl) ?_
      refine s_nil ?_
      refine fin_seq ?_
      refine ok_ret ?_
      refine fin_cell 1 ⟨b1, #[.int .i64 ((1 : Int) + (k5 : Int)), .int .i64 1, .int .i64 ((genV l i).maj), .int .i64 0, .int .i64 0, .string ⟨#[]⟩, .string ⟨#[]⟩], 26⟩ (off := 0) (.agg #[.int .i64 ((1 : Int) + (k5 : Int)), .int .i64 1, .int .i64 ((genV l i).maj), .int .i64 0, .int .i64 0, .string ⟨#[]⟩, .string ⟨#[]⟩]) Tryz.results23 (by kernel_rfl) (by kernel_rfl) (by kernel_rfl) ?_
      exact fun w hO => ⟨by rw [show coV (genCo l i) = .agg #[.int .i64 ((1 : Int) + (k5 : Int)), .int .i64 1, .int .i64 ((genV l i).maj), .int .i64 0, .int .i64 0, .string ⟨#[]⟩, .string ⟨#[]⟩] from by unfold genCo toldV coV; rw [show plc (atL l (i + 5)) 9 = _ from e5, show plc (atL l (i + 6)) 3 = _ from e6]; simp [h1]; try rfl], hO.below⟩
    · skip
      refine s_dec (p := ((1 : Int) + (k5 : Int) : Int) = 9) false (by kernel_rfl) (fun _ => by kernel_rfl) (decide_eq_false (h1)) ?_
      refine s_nil ?_
      refine fin_seq ?_
      refine ok_false (by kernel_rfl) ?_
      refine ok_skip ?_
      refine fin_seq ?_
      refine ok_seq ?_
      refine ok_region ?_
      refine s_val (.pointer (some ⟨b2, 2, none⟩)) (by kernel_rfl) (fun _ => by kernel_rfl) ?_
      refine s_val (.pointer (some ⟨b2, 6, none⟩)) (by kernel_rfl) (fun _ => by kernel_rfl) ?_
      refine s_store_at 0 ⟨b2, #[.int .i64 ((1 : Int) + (k5 : Int)), .int .i64 2, .int .i64 ((genV l i).maj), .int .i64 ((genV l i).min), .int .i64 ((genV l i).pat), .string (mkS (genV l i).pre), .string (mkS (genV l i).build)], 26⟩ (off := 6) (.string ⟨#[]⟩) (by kernel_rfl) rfl rfl (by kernel_rfl) (by kernel_rfl) (by kernel_rfl) (by kernel_rfl) (by kernel_rfl) ?_
      refine s_nil ?_
      refine fin_seq ?_
      refine ok_seq ?_
      refine ok_seq ?_
      refine ok_region ?_
      refine s_val (.pointer (some ⟨b2, 1, none⟩)) (by kernel_rfl) (fun _ => by kernel_rfl) ?_
      refine s_load 0 ⟨b2, #[.int .i64 ((1 : Int) + (k5 : Int)), .int .i64 2, .int .i64 ((genV l i).maj), .int .i64 ((genV l i).min), .int .i64 ((genV l i).pat), .string (mkS (genV l i).pre), .string ⟨#[]⟩], 26⟩ (off := 1) (.int .i64 2) (by kernel_rfl) rfl (by kernel_rfl) (by kernel_rfl) (by kernel_rfl) ?_
      refine s_val (.bool true) (by kernel_rfl) (fun _ => by kernel_rfl) ?_
      refine s_nil ?_
      refine fin_seq ?_
      refine ok_true (by kernel_rfl) ?_
      refine ok_seq ?_
      refine ok_region ?_
      refine s_val (.pointer (some ⟨b2, 2, none⟩)) (by kernel_rfl) (fun _ => by kernel_rfl) ?_
      refine s_val (.pointer (some ⟨b2, 5, none⟩)) (by kernel_rfl) (fun _ => by kernel_rfl) ?_
      refine s_store_at 0 ⟨b2, #[.int .i64 ((1 : Int) + (k5 : Int)), .int .i64 2, .int .i64 ((genV l i).maj), .int .i64 ((genV l i).min), .int .i64 ((genV l i).pat), .string (mkS (genV l i).pre), .string ⟨#[]⟩], 26⟩ (off := 5) (.string ⟨#[]⟩) (by kernel_rfl) rfl rfl (by kernel_rfl) (by kernel_rfl) (by kernel_rfl) (by kernel_rfl) (by kernel_rfl) ?_
      refine s_nil ?_
      refine fin_seq ?_
      refine ok_region ?_
      refine s_val (.pointer (some ⟨b2, 2, none⟩)) (by kernel_rfl) (fun _ => by kernel_rfl) ?_
      refine s_val (.pointer (some ⟨b2, 4, none⟩)) (by kernel_rfl) (fun _ => by kernel_rfl) ?_
      refine s_store_at 0 ⟨b2, #[.int .i64 ((1 : Int) + (k5 : Int)), .int .i64 2, .int .i64 ((genV l i).maj), .int .i64 ((genV l i).min), .int .i64 ((genV l i).pat), .string ⟨#[]⟩, .string ⟨#[]⟩], 26⟩ (off := 4) (.int .i64 0) (by kernel_rfl) rfl rfl (by kernel_rfl) (by kernel_rfl) (by kernel_rfl) (by kernel_rfl) (by kernel_rfl) ?_
      refine s_nil ?_
      refine fin_seq ?_
      refine ok_seq ?_
      refine ok_seq ?_
      refine ok_region ?_
      refine s_val (.pointer (some ⟨b2, 1, none⟩)) (by kernel_rfl) (fun _ => by kernel_rfl) ?_
      refine s_load 0 ⟨b2, #[.int .i64 ((1 : Int) + (k5 : Int)), .int .i64 2, .int .i64 ((genV l i).maj), .int .i64 ((genV l i).min), .int .i64 0, .string ⟨#[]⟩, .string ⟨#[]⟩], 26⟩ (off := 1) (.int .i64 2) (by kernel_rfl) rfl (by kernel_rfl) (by kernel_rfl) (by kernel_rfl) ?_
      refine s_val (.bool false) (by kernel_rfl) (fun _ => by kernel_rfl) ?_
      refine s_nil ?_
      refine fin_seq ?_
      refine ok_false (by kernel_rfl) ?_
      refine ok_skip ?_
      refine fin_seq ?_
      refine ok_seq ?_
      refine ok_seq ?_
      refine ok_region ?_
      refine s_val (.pointer (some ⟨b2, 1, none⟩)) (by kernel_rfl) (fun _ => by kernel_rfl) ?_
      refine s_load 0 ⟨b2, #[.int .i64 ((1 : Int) + (k5 : Int)), .int .i64 2, .int .i64 ((genV l i).maj), .int .i64 ((genV l i).min), .int .i64 0, .string ⟨#[]⟩, .string ⟨#[]⟩], 26⟩ (off := 1) (.int .i64 2) (by kernel_rfl) rfl (by kernel_rfl) (by kernel_rfl) (by kernel_rfl) ?_
      refine s_val (.bool false) (by kernel_rfl) (fun _ => by kernel_rfl) ?_
      refine s_nil ?_
      refine fin_seq ?_
      refine ok_false (by kernel_rfl) ?_
      refine ok_skip ?_
      refine fin_seq ?_
      refine ok_seq ?_
      refine ok_region ?_
      refine s_load 0 ⟨b2, #[.int .i64 ((1 : Int) + (k5 : Int)), .int .i64 2, .int .i64 ((genV l i).maj), .int .i64 ((genV l i).min), .int .i64 0, .string ⟨#[]⟩, .string ⟨#[]⟩], 26⟩ (off := 0) (.agg #[.int .i64 ((1 : Int) + (k5 : Int)), .int .i64 2, .int .i64 ((genV l i).maj), .int .i64 ((genV l i).min), .int .i64 0, .string ⟨#[]⟩, .string ⟨#[]⟩]) (by kernel_rfl) rfl (by kernel_rfl) (by kernel_rfl) (by kernel_rfl) ?_
      refine s_store_at 1 ⟨b1, #[.int .i64 0, .int .i64 0, .int .i64 0, .int .i64 0, .int .i64 0, .string ⟨#[]⟩, .string ⟨#[]⟩], 26⟩ (off := 0) (.agg #[.int .i64 ((1 : Int) + (k5 : Int)), .int .i64 2, .int .i64 ((genV l i).maj), .int .i64 ((genV l i).min), .int .i64 0, .string ⟨#[]⟩, .string ⟨#[]⟩]) (by kernel_rfl) rfl rfl (by kernel_rfl) (by kernel_rfl) (by kernel_rfl) (by kernel_rfl) (by kernel_rfl) ?_
      refine s_nil ?_
      refine fin_seq ?_
      refine ok_ret ?_
      refine fin_cell 1 ⟨b1, #[.int .i64 ((1 : Int) + (k5 : Int)), .int .i64 2, .int .i64 ((genV l i).maj), .int .i64 ((genV l i).min), .int .i64 0, .string ⟨#[]⟩, .string ⟨#[]⟩], 26⟩ (off := 0) (.agg #[.int .i64 ((1 : Int) + (k5 : Int)), .int .i64 2, .int .i64 ((genV l i).maj), .int .i64 ((genV l i).min), .int .i64 0, .string ⟨#[]⟩, .string ⟨#[]⟩]) Tryz.results23 (by kernel_rfl) (by kernel_rfl) (by kernel_rfl) ?_
      exact fun w hO => ⟨by rw [show coV (genCo l i) = .agg #[.int .i64 ((1 : Int) + (k5 : Int)), .int .i64 2, .int .i64 ((genV l i).maj), .int .i64 ((genV l i).min), .int .i64 0, .string ⟨#[]⟩, .string ⟨#[]⟩] from by unfold genCo toldV coV; rw [show plc (atL l (i + 5)) 9 = _ from e5, show plc (atL l (i + 6)) 3 = _ from e6]; simp [h1]; try rfl], hO.below⟩
  · skip
    refine calls_ok (n := 47) Tryz.func23 rfl (by kernel_rfl) (by kernel_rfl) ?_
    refine ok_seq ?_
    refine ok_region ?_
    refine s_alloc_at (.agg #[.int .i64 0, .int .i64 0, .int .i64 0, .int .i64 0, .int .i64 0, .string ⟨#[]⟩, .string ⟨#[]⟩]) (by kernel_rfl) rfl (by kernel_rfl) (fun b1 => ?_)
    refine s_nil ?_
    refine fin_seq ?_
    refine ok_seq ?_
    refine ok_region ?_
    refine s_val (v) (by kernel_rfl) (fun _ => by kernel_rfl) ?_
    refine s_val (.int .i64 ((i : Nat) : Int)) (by kernel_rfl) (fun _ => by kernel_rfl) ?_
    refine s_sum (k := .i64) (((i + 5 : Nat) : Int)) (by kernel_rfl) (fun _ => by kernel_rfl) (IntWalk.i64_in _ (by omega)) ?_
    refine s_call (k := 58) (args := #[v, .int .i64 ((i + 5 : Nat) : Int), .int .i64 9]) (.int .i64 (k5 : Int)) (by kernel_rfl) (fun _ => by kernel_rfl) (fun w hO => f5 w hO.below) ?_
    refine s_sum (k := .i64) ((1 : Int) + (k5 : Int)) (by kernel_rfl) (fun _ => by kernel_rfl) (IntWalk.i64_in _ (by omega)) ?_
    refine s_val (v) (by kernel_rfl) (fun _ => by kernel_rfl) ?_
    refine s_val (.int .i64 ((i : Nat) : Int)) (by kernel_rfl) (fun _ => by kernel_rfl) ?_
    refine s_sum (k := .i64) (((i + 6 : Nat) : Int)) (by kernel_rfl) (fun _ => by kernel_rfl) (IntWalk.i64_in _ (by omega)) ?_
    refine s_call (k := 58) (args := #[v, .int .i64 ((i + 6 : Nat) : Int), .int .i64 3]) (.int .i64 2) (by kernel_rfl) (fun _ => by kernel_rfl) (fun w hO => f6 w hO.below) ?_
    refine s_val (.int .i64 3) (by kernel_rfl) (fun _ => by kernel_rfl) ?_
    refine s_val (v) (by kernel_rfl) (fun _ => by kernel_rfl) ?_
    refine s_val (.int .i64 ((i : Nat) : Int)) (by kernel_rfl) (fun _ => by kernel_rfl) ?_
    refine s_call (k := 27) (args := #[v, .int .i64 ((i : Nat) : Int)]) (verV (genV l i)) (by kernel_rfl) (fun _ => by kernel_rfl) (fun w hO => gen_any v l i w ((hv.below hO.below).more hO.below.size) hl (by omega)) ?_
    refine s_val (.agg #[.int .i64 ((1 : Int) + (k5 : Int)), .int .i64 3, .int .i64 ((genV l i).maj), .int .i64 ((genV l i).min), .int .i64 ((genV l i).pat), .string (mkS (genV l i).pre), .string (mkS (genV l i).build)]) (by kernel_rfl) (fun _ => by kernel_rfl) ?_
    refine s_alloc_at (.agg #[.int .i64 0, .int .i64 0, .int .i64 0, .int .i64 0, .int .i64 0, .string ⟨#[]⟩, .string ⟨#[]⟩]) (by kernel_rfl) rfl (by kernel_rfl) (fun b2 => ?_)
    refine s_store_at 0 ⟨b2, #[.int .i64 0, .int .i64 0, .int .i64 0, .int .i64 0, .int .i64 0, .string ⟨#[]⟩, .string ⟨#[]⟩], 26⟩ (off := 0) (.agg #[.int .i64 ((1 : Int) + (k5 : Int)), .int .i64 3, .int .i64 ((genV l i).maj), .int .i64 ((genV l i).min), .int .i64 ((genV l i).pat), .string (mkS (genV l i).pre), .string (mkS (genV l i).build)]) (by kernel_rfl) rfl rfl (by kernel_rfl) (by kernel_rfl) (by kernel_rfl) (by kernel_rfl) (by kernel_rfl) ?_
    refine s_nil ?_
    refine fin_seq ?_
    refine ok_seq ?_
    refine ok_seq ?_
    refine ok_region ?_
    refine s_val (.pointer (some ⟨b2, 0, none⟩)) (by kernel_rfl) (fun _ => by kernel_rfl) ?_
    refine s_load 0 ⟨b2, #[.int .i64 ((1 : Int) + (k5 : Int)), .int .i64 3, .int .i64 ((genV l i).maj), .int .i64 ((genV l i).min), .int .i64 ((genV l i).pat), .string (mkS (genV l i).pre), .string (mkS (genV l i).build)], 26⟩ (off := 0) (.int .i64 ((1 : Int) + (k5 : Int))) (by kernel_rfl) rfl (by kernel_rfl) (by kernel_rfl) (by kernel_rfl) ?_
    by_cases h1 : ((1 : Int) + (k5 : Int) : Int) = 9
    · skip
      refine s_dec (p := ((1 : Int) + (k5 : Int) : Int) = 9) true (by kernel_rfl) (fun _ => by kernel_rfl) (decide_eq_true (h1)) ?_
      refine s_nil ?_
      refine fin_seq ?_
      refine ok_true (by kernel_rfl) ?_
      refine ok_region ?_
      refine s_val (.pointer (some ⟨b2, 1, none⟩)) (by kernel_rfl) (fun _ => by kernel_rfl) ?_
      refine s_load 0 ⟨b2, #[.int .i64 ((1 : Int) + (k5 : Int)), .int .i64 3, .int .i64 ((genV l i).maj), .int .i64 ((genV l i).min), .int .i64 ((genV l i).pat), .string (mkS (genV l i).pre), .string (mkS (genV l i).build)], 26⟩ (off := 1) (.int .i64 3) (by kernel_rfl) rfl (by kernel_rfl) (by kernel_rfl) (by kernel_rfl) ?_
      refine s_val (.int .i64 2) (by kernel_rfl) (fun _ => by kernel_rfl) ?_
      refine s_val (.pointer (some ⟨b2, 1, none⟩)) (by kernel_rfl) (fun _ => by kernel_rfl) ?_
      refine s_store_at 0 ⟨b2, #[.int .i64 ((1 : Int) + (k5 : Int)), .int .i64 3, .int .i64 ((genV l i).maj), .int .i64 ((genV l i).min), .int .i64 ((genV l i).pat), .string (mkS (genV l i).pre), .string (mkS (genV l i).build)], 26⟩ (off := 1) (.int .i64 2) (by kernel_rfl) rfl rfl (by kernel_rfl) (by kernel_rfl) (by kernel_rfl) (by kernel_rfl) (by kernel_rfl) ?_
      refine s_nil ?_
      refine fin_seq ?_
      refine ok_seq ?_
      refine ok_region ?_
      refine s_val (.pointer (some ⟨b2, 2, none⟩)) (by kernel_rfl) (fun _ => by kernel_rfl) ?_
      refine s_val (.pointer (some ⟨b2, 6, none⟩)) (by kernel_rfl) (fun _ => by kernel_rfl) ?_
      refine s_store_at 0 ⟨b2, #[.int .i64 ((1 : Int) + (k5 : Int)), .int .i64 2, .int .i64 ((genV l i).maj), .int .i64 ((genV l i).min), .int .i64 ((genV l i).pat), .string (mkS (genV l i).pre), .string (mkS (genV l i).build)], 26⟩ (off := 6) (.string ⟨#[]⟩) (by kernel_rfl) rfl rfl (by kernel_rfl) (by kernel_rfl) (by kernel_rfl) (by kernel_rfl) (by kernel_rfl) ?_
      refine s_nil ?_
      refine fin_seq ?_
      refine ok_seq ?_
      refine ok_seq ?_
      refine ok_region ?_
      refine s_val (.pointer (some ⟨b2, 1, none⟩)) (by kernel_rfl) (fun _ => by kernel_rfl) ?_
      refine s_load 0 ⟨b2, #[.int .i64 ((1 : Int) + (k5 : Int)), .int .i64 2, .int .i64 ((genV l i).maj), .int .i64 ((genV l i).min), .int .i64 ((genV l i).pat), .string (mkS (genV l i).pre), .string ⟨#[]⟩], 26⟩ (off := 1) (.int .i64 2) (by kernel_rfl) rfl (by kernel_rfl) (by kernel_rfl) (by kernel_rfl) ?_
      refine s_val (.bool true) (by kernel_rfl) (fun _ => by kernel_rfl) ?_
      refine s_nil ?_
      refine fin_seq ?_
      refine ok_true (by kernel_rfl) ?_
      refine ok_seq ?_
      refine ok_region ?_
      refine s_val (.pointer (some ⟨b2, 2, none⟩)) (by kernel_rfl) (fun _ => by kernel_rfl) ?_
      refine s_val (.pointer (some ⟨b2, 5, none⟩)) (by kernel_rfl) (fun _ => by kernel_rfl) ?_
      refine s_store_at 0 ⟨b2, #[.int .i64 ((1 : Int) + (k5 : Int)), .int .i64 2, .int .i64 ((genV l i).maj), .int .i64 ((genV l i).min), .int .i64 ((genV l i).pat), .string (mkS (genV l i).pre), .string ⟨#[]⟩], 26⟩ (off := 5) (.string ⟨#[]⟩) (by kernel_rfl) rfl rfl (by kernel_rfl) (by kernel_rfl) (by kernel_rfl) (by kernel_rfl) (by kernel_rfl) ?_
      refine s_nil ?_
      refine fin_seq ?_
      refine ok_region ?_
      refine s_val (.pointer (some ⟨b2, 2, none⟩)) (by kernel_rfl) (fun _ => by kernel_rfl) ?_
      refine s_val (.pointer (some ⟨b2, 4, none⟩)) (by kernel_rfl) (fun _ => by kernel_rfl) ?_
      refine s_store_at 0 ⟨b2, #[.int .i64 ((1 : Int) + (k5 : Int)), .int .i64 2, .int .i64 ((genV l i).maj), .int .i64 ((genV l i).min), .int .i64 ((genV l i).pat), .string ⟨#[]⟩, .string ⟨#[]⟩], 26⟩ (off := 4) (.int .i64 0) (by kernel_rfl) rfl rfl (by kernel_rfl) (by kernel_rfl) (by kernel_rfl) (by kernel_rfl) (by kernel_rfl) ?_
      refine s_nil ?_
      refine fin_seq ?_
      refine ok_seq ?_
      refine ok_seq ?_
      refine ok_region ?_
      refine s_val (.pointer (some ⟨b2, 1, none⟩)) (by kernel_rfl) (fun _ => by kernel_rfl) ?_
      refine s_load 0 ⟨b2, #[.int .i64 ((1 : Int) + (k5 : Int)), .int .i64 2, .int .i64 ((genV l i).maj), .int .i64 ((genV l i).min), .int .i64 0, .string ⟨#[]⟩, .string ⟨#[]⟩], 26⟩ (off := 1) (.int .i64 2) (by kernel_rfl) rfl (by kernel_rfl) (by kernel_rfl) (by kernel_rfl) ?_
      refine s_val (.bool false) (by kernel_rfl) (fun _ => by kernel_rfl) ?_
      refine s_nil ?_
      refine fin_seq ?_
      refine ok_false (by kernel_rfl) ?_
      refine ok_skip ?_
      refine fin_seq ?_
      refine ok_seq ?_
      refine ok_seq ?_
      refine ok_region ?_
      refine s_val (.pointer (some ⟨b2, 1, none⟩)) (by kernel_rfl) (fun _ => by kernel_rfl) ?_
      refine s_load 0 ⟨b2, #[.int .i64 ((1 : Int) + (k5 : Int)), .int .i64 2, .int .i64 ((genV l i).maj), .int .i64 ((genV l i).min), .int .i64 0, .string ⟨#[]⟩, .string ⟨#[]⟩], 26⟩ (off := 1) (.int .i64 2) (by kernel_rfl) rfl (by kernel_rfl) (by kernel_rfl) (by kernel_rfl) ?_
      refine s_val (.bool false) (by kernel_rfl) (fun _ => by kernel_rfl) ?_
      refine s_nil ?_
      refine fin_seq ?_
      refine ok_false (by kernel_rfl) ?_
      refine ok_skip ?_
      refine fin_seq ?_
      refine ok_seq ?_
      refine ok_region ?_
      refine s_load 0 ⟨b2, #[.int .i64 ((1 : Int) + (k5 : Int)), .int .i64 2, .int .i64 ((genV l i).maj), .int .i64 ((genV l i).min), .int .i64 0, .string ⟨#[]⟩, .string ⟨#[]⟩], 26⟩ (off := 0) (.agg #[.int .i64 ((1 : Int) + (k5 : Int)), .int .i64 2, .int .i64 ((genV l i).maj), .int .i64 ((genV l i).min), .int .i64 0, .string ⟨#[]⟩, .string ⟨#[]⟩]) (by kernel_rfl) rfl (by kernel_rfl) (by kernel_rfl) (by kernel_rfl) ?_
      refine s_store_at 1 ⟨b1, #[.int .i64 0, .int .i64 0, .int .i64 0, .int .i64 0, .int .i64 0, .string ⟨#[]⟩, .string ⟨#[]⟩], 26⟩ (off := 0) (.agg #[.int .i64 ((1 : Int) + (k5 : Int)), .int .i64 2, .int .i64 ((genV l i).maj), .int .i64 ((genV l i).min), .int .i64 0, .string ⟨#[]⟩, .string ⟨#[]⟩]) (by kernel_rfl) rfl rfl (by kernel_rfl) (by kernel_rfl) (by kernel_rfl) (by kernel_rfl) (by kernel_rfl) ?_
      refine s_nil ?_
      refine fin_seq ?_
      refine ok_ret ?_
      refine fin_cell 1 ⟨b1, #[.int .i64 ((1 : Int) + (k5 : Int)), .int .i64 2, .int .i64 ((genV l i).maj), .int .i64 ((genV l i).min), .int .i64 0, .string ⟨#[]⟩, .string ⟨#[]⟩], 26⟩ (off := 0) (.agg #[.int .i64 ((1 : Int) + (k5 : Int)), .int .i64 2, .int .i64 ((genV l i).maj), .int .i64 ((genV l i).min), .int .i64 0, .string ⟨#[]⟩, .string ⟨#[]⟩]) Tryz.results23 (by kernel_rfl) (by kernel_rfl) (by kernel_rfl) ?_
      exact fun w hO => ⟨by rw [show coV (genCo l i) = .agg #[.int .i64 ((1 : Int) + (k5 : Int)), .int .i64 2, .int .i64 ((genV l i).maj), .int .i64 ((genV l i).min), .int .i64 0, .string ⟨#[]⟩, .string ⟨#[]⟩] from by unfold genCo toldV coV; rw [show plc (atL l (i + 5)) 9 = _ from e5, show plc (atL l (i + 6)) 3 = _ from e6]; simp [h1]; try rfl], hO.below⟩
    · skip
      refine s_dec (p := ((1 : Int) + (k5 : Int) : Int) = 9) false (by kernel_rfl) (fun _ => by kernel_rfl) (decide_eq_false (h1)) ?_
      refine s_nil ?_
      refine fin_seq ?_
      refine ok_false (by kernel_rfl) ?_
      refine ok_skip ?_
      refine fin_seq ?_
      refine ok_seq ?_
      refine ok_region ?_
      refine s_val (.pointer (some ⟨b2, 2, none⟩)) (by kernel_rfl) (fun _ => by kernel_rfl) ?_
      refine s_val (.pointer (some ⟨b2, 6, none⟩)) (by kernel_rfl) (fun _ => by kernel_rfl) ?_
      refine s_store_at 0 ⟨b2, #[.int .i64 ((1 : Int) + (k5 : Int)), .int .i64 3, .int .i64 ((genV l i).maj), .int .i64 ((genV l i).min), .int .i64 ((genV l i).pat), .string (mkS (genV l i).pre), .string (mkS (genV l i).build)], 26⟩ (off := 6) (.string ⟨#[]⟩) (by kernel_rfl) rfl rfl (by kernel_rfl) (by kernel_rfl) (by kernel_rfl) (by kernel_rfl) (by kernel_rfl) ?_
      refine s_nil ?_
      refine fin_seq ?_
      refine ok_seq ?_
      refine ok_seq ?_
      refine ok_region ?_
      refine s_val (.pointer (some ⟨b2, 1, none⟩)) (by kernel_rfl) (fun _ => by kernel_rfl) ?_
      refine s_load 0 ⟨b2, #[.int .i64 ((1 : Int) + (k5 : Int)), .int .i64 3, .int .i64 ((genV l i).maj), .int .i64 ((genV l i).min), .int .i64 ((genV l i).pat), .string (mkS (genV l i).pre), .string ⟨#[]⟩], 26⟩ (off := 1) (.int .i64 3) (by kernel_rfl) rfl (by kernel_rfl) (by kernel_rfl) (by kernel_rfl) ?_
      refine s_val (.bool false) (by kernel_rfl) (fun _ => by kernel_rfl) ?_
      refine s_nil ?_
      refine fin_seq ?_
      refine ok_false (by kernel_rfl) ?_
      refine ok_skip ?_
      refine fin_seq ?_
      refine ok_seq ?_
      refine ok_seq ?_
      refine ok_region ?_
      refine s_val (.pointer (some ⟨b2, 1, none⟩)) (by kernel_rfl) (fun _ => by kernel_rfl) ?_
      refine s_load 0 ⟨b2, #[.int .i64 ((1 : Int) + (k5 : Int)), .int .i64 3, .int .i64 ((genV l i).maj), .int .i64 ((genV l i).min), .int .i64 ((genV l i).pat), .string (mkS (genV l i).pre), .string ⟨#[]⟩], 26⟩ (off := 1) (.int .i64 3) (by kernel_rfl) rfl (by kernel_rfl) (by kernel_rfl) (by kernel_rfl) ?_
      refine s_val (.bool false) (by kernel_rfl) (fun _ => by kernel_rfl) ?_
      refine s_nil ?_
      refine fin_seq ?_
      refine ok_false (by kernel_rfl) ?_
      refine ok_skip ?_
      refine fin_seq ?_
      refine ok_seq ?_
      refine ok_seq ?_
      refine ok_region ?_
      refine s_val (.pointer (some ⟨b2, 1, none⟩)) (by kernel_rfl) (fun _ => by kernel_rfl) ?_
      refine s_load 0 ⟨b2, #[.int .i64 ((1 : Int) + (k5 : Int)), .int .i64 3, .int .i64 ((genV l i).maj), .int .i64 ((genV l i).min), .int .i64 ((genV l i).pat), .string (mkS (genV l i).pre), .string ⟨#[]⟩], 26⟩ (off := 1) (.int .i64 3) (by kernel_rfl) rfl (by kernel_rfl) (by kernel_rfl) (by kernel_rfl) ?_
      refine s_val (.bool false) (by kernel_rfl) (fun _ => by kernel_rfl) ?_
      refine s_nil ?_
      refine fin_seq ?_
      refine ok_false (by kernel_rfl) ?_
      refine ok_skip ?_
      refine fin_seq ?_
      refine ok_seq ?_
      refine ok_region ?_
      refine s_load 0 ⟨b2, #[.int .i64 ((1 : Int) + (k5 : Int)), .int .i64 3, .int .i64 ((genV l i).maj), .int .i64 ((genV l i).min), .int .i64 ((genV l i).pat), .string (mkS (genV l i).pre), .string ⟨#[]⟩], 26⟩ (off := 0) (.agg #[.int .i64 ((1 : Int) + (k5 : Int)), .int .i64 3, .int .i64 ((genV l i).maj), .int .i64 ((genV l i).min), .int .i64 ((genV l i).pat), .string (mkS (genV l i).pre), .string ⟨#[]⟩]) (by kernel_rfl) rfl (by kernel_rfl) (by kernel_rfl) (by kernel_rfl) ?_
      refine s_store_at 1 ⟨b1, #[.int .i64 0, .int .i64 0, .int .i64 0, .int .i64 0, .int .i64 0, .string ⟨#[]⟩, .string ⟨#[]⟩], 26⟩ (off := 0) (.agg #[.int .i64 ((1 : Int) + (k5 : Int)), .int .i64 3, .int .i64 ((genV l i).maj), .int .i64 ((genV l i).min), .int .i64 ((genV l i).pat), .string (mkS (genV l i).pre), .string ⟨#[]⟩]) (by kernel_rfl) rfl rfl (by kernel_rfl) (by kernel_rfl) (by kernel_rfl) (by kernel_rfl) (by kernel_rfl) ?_
      refine s_nil ?_
      refine fin_seq ?_
      refine ok_ret ?_
      refine fin_cell 1 ⟨b1, #[.int .i64 ((1 : Int) + (k5 : Int)), .int .i64 3, .int .i64 ((genV l i).maj), .int .i64 ((genV l i).min), .int .i64 ((genV l i).pat), .string (mkS (genV l i).pre), .string ⟨#[]⟩], 26⟩ (off := 0) (.agg #[.int .i64 ((1 : Int) + (k5 : Int)), .int .i64 3, .int .i64 ((genV l i).maj), .int .i64 ((genV l i).min), .int .i64 ((genV l i).pat), .string (mkS (genV l i).pre), .string ⟨#[]⟩]) Tryz.results23 (by kernel_rfl) (by kernel_rfl) (by kernel_rfl) ?_
      exact fun w hO => ⟨by rw [show coV (genCo l i) = .agg #[.int .i64 ((1 : Int) + (k5 : Int)), .int .i64 3, .int .i64 ((genV l i).maj), .int .i64 ((genV l i).min), .int .i64 ((genV l i).pat), .string (mkS (genV l i).pre), .string ⟨#[]⟩] from by unfold genCo toldV coV; rw [show plc (atL l (i + 5)) 9 = _ from e5, show plc (atL l (i + 6)) 3 = _ from e6]; simp [h1]; try rfl], hO.below⟩
theorem with6_any (c : Co) (o : Int) (W : World) : Calls Tryz.prog 30 #[coV c, .int .i64 o] W fun e w' => e = .returned (coV (withO c o)) ∧ Below W.heap.size W w' := by
  refine calls_ok (n := 8) Tryz.func30 rfl (by kernel_rfl) (by kernel_rfl) ?_
  refine ok_seq ?_
  refine ok_region ?_
  refine s_box (coV c) (by kernel_rfl) rfl (by kernel_rfl) (fun b1 => ?_)
  refine s_alloc_at (.agg #[.int .i64 0, .int .i64 0, .int .i64 0, .int .i64 0, .int .i64 0, .string ⟨#[]⟩, .string ⟨#[]⟩]) (by kernel_rfl) rfl (by kernel_rfl) (fun b2 => ?_)
  refine s_nil ?_
  refine fin_seq ?_
  refine ok_seq ?_
  refine ok_region ?_
  refine s_val (.int .i64 o) (by kernel_rfl) (fun _ => by kernel_rfl) ?_
  refine s_val (.pointer (some ⟨b1, 0, none⟩)) (by kernel_rfl) (fun _ => by kernel_rfl) ?_
  refine s_store_at 1 ⟨b1, (coV c).cells, 26⟩ (off := 0) (.int .i64 o) (by kernel_rfl) rfl rfl (by kernel_rfl) (by kernel_rfl) (by kernel_rfl) (by kernel_rfl) (by kernel_rfl) ?_
  refine s_nil ?_
  refine fin_seq ?_
  refine ok_seq ?_
  refine ok_region ?_
  refine s_load 1 ⟨b1, #[.int .i64 o, .int .i64 c.parts, .int .i64 c.v.maj, .int .i64 c.v.min, .int .i64 c.v.pat, .string (mkS c.v.pre), .string (mkS c.v.build)], 26⟩ (off := 0) (.agg #[.int .i64 o, .int .i64 c.parts, .int .i64 c.v.maj, .int .i64 c.v.min, .int .i64 c.v.pat, .string (mkS c.v.pre), .string (mkS c.v.build)]) (by kernel_rfl) rfl (by kernel_rfl) (by kernel_rfl) (by kernel_rfl) ?_
  refine s_store_at 0 ⟨b2, #[.int .i64 0, .int .i64 0, .int .i64 0, .int .i64 0, .int .i64 0, .string ⟨#[]⟩, .string ⟨#[]⟩], 26⟩ (off := 0) (.agg #[.int .i64 o, .int .i64 c.parts, .int .i64 c.v.maj, .int .i64 c.v.min, .int .i64 c.v.pat, .string (mkS c.v.pre), .string (mkS c.v.build)]) (by kernel_rfl) rfl rfl (by kernel_rfl) (by kernel_rfl) (by kernel_rfl) (by kernel_rfl) (by kernel_rfl) ?_
  refine s_nil ?_
  refine fin_seq ?_
  refine ok_ret ?_
  refine fin_cell 0 ⟨b2, #[.int .i64 o, .int .i64 c.parts, .int .i64 c.v.maj, .int .i64 c.v.min, .int .i64 c.v.pat, .string (mkS c.v.pre), .string (mkS c.v.build)], 26⟩ (off := 0) (.agg #[.int .i64 o, .int .i64 c.parts, .int .i64 c.v.maj, .int .i64 c.v.min, .int .i64 c.v.pat, .string (mkS c.v.pre), .string (mkS c.v.build)]) Tryz.results30 (by kernel_rfl) (by kernel_rfl) (by kernel_rfl) ?_
  exact fun w hO => ⟨rfl, hO.below⟩
theorem begins6_any (c : Co) (v : Ver) (p : Int) (W : World) : Calls Tryz.prog 29 #[coV c, verV v, .int .i64 p] W fun e w' => e = .returned (.bool (beginsB c v p)) ∧ Below W.heap.size W w' := by
  refine calls_ok (n := 41) Tryz.func29 rfl (by kernel_rfl) (by kernel_rfl) ?_
  refine ok_seq ?_
  refine ok_region ?_
  refine s_box (coV c) (by kernel_rfl) rfl (by kernel_rfl) (fun b1 => ?_)
  refine s_box (verV v) (by kernel_rfl) rfl (by kernel_rfl) (fun b2 => ?_)
  refine s_val (.bool false) (by kernel_rfl) (fun _ => by kernel_rfl) ?_
  refine s_nil ?_
  refine fin_seq ?_
  refine ok_seq ?_
  refine ok_region ?_
  refine s_val (.int .i64 p) (by kernel_rfl) (fun _ => by kernel_rfl) ?_
  by_cases h1 : (p : Int) < 1
  · skip
    refine s_dec (p := (p : Int) < 1) true (by kernel_rfl) (fun _ => by kernel_rfl) (decide_eq_true (h1)) ?_
    refine s_val (.bool true) (by kernel_rfl) (fun _ => by kernel_rfl) ?_
    refine s_skip (by kernel_rfl) ?_
    refine s_skip (by kernel_rfl) ?_
    refine s_skip (by kernel_rfl) ?_
    refine s_skip (by kernel_rfl) ?_
    refine s_skip (by kernel_rfl) ?_
    refine s_skip (by kernel_rfl) ?_
    refine s_val (.bool true) (by kernel_rfl) (fun _ => by kernel_rfl) ?_
    refine s_val (.bool true) (by kernel_rfl) (fun _ => by kernel_rfl) ?_
    refine s_val (.int .i64 p) (by kernel_rfl) (fun _ => by kernel_rfl) ?_
    by_cases h2 : (p : Int) < 2
    · skip
      refine s_dec (p := (p : Int) < 2) true (by kernel_rfl) (fun _ => by kernel_rfl) (decide_eq_true (h2)) ?_
      refine s_val (.bool true) (by kernel_rfl) (fun _ => by kernel_rfl) ?_
      refine s_skip (by kernel_rfl) ?_
      refine s_skip (by kernel_rfl) ?_
      refine s_skip (by kernel_rfl) ?_
      refine s_skip (by kernel_rfl) ?_
      refine s_skip (by kernel_rfl) ?_
      refine s_skip (by kernel_rfl) ?_
      refine s_val (.bool true) (by kernel_rfl) (fun _ => by kernel_rfl) ?_
      refine s_val (.bool true) (by kernel_rfl) (fun _ => by kernel_rfl) ?_
      refine s_val (.bool true) (by kernel_rfl) (fun _ => by kernel_rfl) ?_
      refine s_val (.int .i64 p) (by kernel_rfl) (fun _ => by kernel_rfl) ?_
      by_cases h3 : (p : Int) < 3
      · skip
        refine s_dec (p := (p : Int) < 3) true (by kernel_rfl) (fun _ => by kernel_rfl) (decide_eq_true (h3)) ?_
        refine s_val (.bool true) (by kernel_rfl) (fun _ => by kernel_rfl) ?_
        refine s_skip (by kernel_rfl) ?_
        refine s_skip (by kernel_rfl) ?_
        refine s_skip (by kernel_rfl) ?_
        refine s_skip (by kernel_rfl) ?_
        refine s_skip (by kernel_rfl) ?_
        refine s_skip (by kernel_rfl) ?_
        refine s_val (.bool true) (by kernel_rfl) (fun _ => by kernel_rfl) ?_
        refine s_val (.bool true) (by kernel_rfl) (fun _ => by kernel_rfl) ?_
        refine s_val (.bool true) (by kernel_rfl) (fun _ => by kernel_rfl) ?_
        refine s_nil ?_
        refine fin_seq ?_
        refine ok_ret ?_
        refine fin_ret (.bool true) Tryz.results29 (by kernel_rfl) ?_
        exact fun w hO => ⟨by rw [show beginsB c v p = true from by unfold beginsB; simp [h1, h2, h3]; try omega], hO.below⟩
      · skip
        refine s_dec (p := (p : Int) < 3) false (by kernel_rfl) (fun _ => by kernel_rfl) (decide_eq_false (h3)) ?_
        refine s_val (.bool false) (by kernel_rfl) (fun _ => by kernel_rfl) ?_
        refine s_val (.pointer (some ⟨b2, 2, none⟩)) (by kernel_rfl) (fun _ => by kernel_rfl) ?_
        refine s_load 0 ⟨b2, (verV v).cells, 24⟩ (off := 2) (.int .i64 v.pat) (by kernel_rfl) rfl (by kernel_rfl) (by kernel_rfl) (by kernel_rfl) ?_
        refine s_val (.pointer (some ⟨b1, 2, none⟩)) (by kernel_rfl) (fun _ => by kernel_rfl) ?_
        refine s_val (.pointer (some ⟨b1, 4, none⟩)) (by kernel_rfl) (fun _ => by kernel_rfl) ?_
        refine s_load 1 ⟨b1, (coV c).cells, 26⟩ (off := 4) (.int .i64 c.v.pat) (by kernel_rfl) rfl (by kernel_rfl) (by kernel_rfl) (by kernel_rfl) ?_
        by_cases h4 : (v.pat : Int) = c.v.pat
        · skip
          refine s_dec (p := (v.pat : Int) = c.v.pat) true (by kernel_rfl) (fun _ => by kernel_rfl) (decide_eq_true (h4)) ?_
          refine s_val (.bool true) (by kernel_rfl) (fun _ => by kernel_rfl) ?_
          refine s_val (.bool true) (by kernel_rfl) (fun _ => by kernel_rfl) ?_
          refine s_val (.bool true) (by kernel_rfl) (fun _ => by kernel_rfl) ?_
          refine s_nil ?_
          refine fin_seq ?_
          refine ok_ret ?_
          refine fin_ret (.bool true) Tryz.results29 (by kernel_rfl) ?_
          exact fun w hO => ⟨by rw [show beginsB c v p = true from by unfold beginsB; simp [h1, h2, h3, h4]; try omega], hO.below⟩
        · skip
          refine s_dec (p := (v.pat : Int) = c.v.pat) false (by kernel_rfl) (fun _ => by kernel_rfl) (decide_eq_false (h4)) ?_
          refine s_val (.bool false) (by kernel_rfl) (fun _ => by kernel_rfl) ?_
          refine s_val (.bool false) (by kernel_rfl) (fun _ => by kernel_rfl) ?_
          refine s_val (.bool false) (by kernel_rfl) (fun _ => by kernel_rfl) ?_
          refine s_nil ?_
          refine fin_seq ?_
          refine ok_ret ?_
          refine fin_ret (.bool false) Tryz.results29 (by kernel_rfl) ?_
          exact fun w hO => ⟨by rw [show beginsB c v p = false from by unfold beginsB; simp [h1, h2, h3, h4]; try omega], hO.below⟩
    · skip
      refine s_dec (p := (p : Int) < 2) false (by kernel_rfl) (fun _ => by kernel_rfl) (decide_eq_false (h2)) ?_
      refine s_val (.bool false) (by kernel_rfl) (fun _ => by kernel_rfl) ?_
      refine s_val (.pointer (some ⟨b2, 1, none⟩)) (by kernel_rfl) (fun _ => by kernel_rfl) ?_
      refine s_load 0 ⟨b2, (verV v).cells, 24⟩ (off := 1) (.int .i64 v.min) (by kernel_rfl) rfl (by kernel_rfl) (by kernel_rfl) (by kernel_rfl) ?_
      refine s_val (.pointer (some ⟨b1, 2, none⟩)) (by kernel_rfl) (fun _ => by kernel_rfl) ?_
      refine s_val (.pointer (some ⟨b1, 3, none⟩)) (by kernel_rfl) (fun _ => by kernel_rfl) ?_
      refine s_load 1 ⟨b1, (coV c).cells, 26⟩ (off := 3) (.int .i64 c.v.min) (by kernel_rfl) rfl (by kernel_rfl) (by kernel_rfl) (by kernel_rfl) ?_
      by_cases h5 : (v.min : Int) = c.v.min
      · skip
        refine s_dec (p := (v.min : Int) = c.v.min) true (by kernel_rfl) (fun _ => by kernel_rfl) (decide_eq_true (h5)) ?_
        refine s_val (.bool true) (by kernel_rfl) (fun _ => by kernel_rfl) ?_
        refine s_val (.bool true) (by kernel_rfl) (fun _ => by kernel_rfl) ?_
        refine s_val (.bool true) (by kernel_rfl) (fun _ => by kernel_rfl) ?_
        refine s_val (.int .i64 p) (by kernel_rfl) (fun _ => by kernel_rfl) ?_
        by_cases h6 : (p : Int) < 3
        · skip
          refine s_dec (p := (p : Int) < 3) true (by kernel_rfl) (fun _ => by kernel_rfl) (decide_eq_true (h6)) ?_
          refine s_val (.bool true) (by kernel_rfl) (fun _ => by kernel_rfl) ?_
          refine s_skip (by kernel_rfl) ?_
          refine s_skip (by kernel_rfl) ?_
          refine s_skip (by kernel_rfl) ?_
          refine s_skip (by kernel_rfl) ?_
          refine s_skip (by kernel_rfl) ?_
          refine s_skip (by kernel_rfl) ?_
          refine s_val (.bool true) (by kernel_rfl) (fun _ => by kernel_rfl) ?_
          refine s_val (.bool true) (by kernel_rfl) (fun _ => by kernel_rfl) ?_
          refine s_val (.bool true) (by kernel_rfl) (fun _ => by kernel_rfl) ?_
          refine s_nil ?_
          refine fin_seq ?_
          refine ok_ret ?_
          refine fin_ret (.bool true) Tryz.results29 (by kernel_rfl) ?_
          exact fun w hO => ⟨by rw [show beginsB c v p = true from by unfold beginsB; simp [h1, h2, h5, h6]; try omega], hO.below⟩
        · skip
          refine s_dec (p := (p : Int) < 3) false (by kernel_rfl) (fun _ => by kernel_rfl) (decide_eq_false (h6)) ?_
          refine s_val (.bool false) (by kernel_rfl) (fun _ => by kernel_rfl) ?_
          refine s_val (.pointer (some ⟨b2, 2, none⟩)) (by kernel_rfl) (fun _ => by kernel_rfl) ?_
          refine s_load 0 ⟨b2, (verV v).cells, 24⟩ (off := 2) (.int .i64 v.pat) (by kernel_rfl) rfl (by kernel_rfl) (by kernel_rfl) (by kernel_rfl) ?_
          refine s_val (.pointer (some ⟨b1, 2, none⟩)) (by kernel_rfl) (fun _ => by kernel_rfl) ?_
          refine s_val (.pointer (some ⟨b1, 4, none⟩)) (by kernel_rfl) (fun _ => by kernel_rfl) ?_
          refine s_load 1 ⟨b1, (coV c).cells, 26⟩ (off := 4) (.int .i64 c.v.pat) (by kernel_rfl) rfl (by kernel_rfl) (by kernel_rfl) (by kernel_rfl) ?_
          by_cases h7 : (v.pat : Int) = c.v.pat
          · skip
            refine s_dec (p := (v.pat : Int) = c.v.pat) true (by kernel_rfl) (fun _ => by kernel_rfl) (decide_eq_true (h7)) ?_
            refine s_val (.bool true) (by kernel_rfl) (fun _ => by kernel_rfl) ?_
            refine s_val (.bool true) (by kernel_rfl) (fun _ => by kernel_rfl) ?_
            refine s_val (.bool true) (by kernel_rfl) (fun _ => by kernel_rfl) ?_
            refine s_nil ?_
            refine fin_seq ?_
            refine ok_ret ?_
            refine fin_ret (.bool true) Tryz.results29 (by kernel_rfl) ?_
            exact fun w hO => ⟨by rw [show beginsB c v p = true from by unfold beginsB; simp [h1, h2, h5, h6, h7]; try omega], hO.below⟩
          · skip
            refine s_dec (p := (v.pat : Int) = c.v.pat) false (by kernel_rfl) (fun _ => by kernel_rfl) (decide_eq_false (h7)) ?_
            refine s_val (.bool false) (by kernel_rfl) (fun _ => by kernel_rfl) ?_
            refine s_val (.bool false) (by kernel_rfl) (fun _ => by kernel_rfl) ?_
            refine s_val (.bool false) (by kernel_rfl) (fun _ => by kernel_rfl) ?_
            refine s_nil ?_
            refine fin_seq ?_
            refine ok_ret ?_
            refine fin_ret (.bool false) Tryz.results29 (by kernel_rfl) ?_
            exact fun w hO => ⟨by rw [show beginsB c v p = false from by unfold beginsB; simp [h1, h2, h5, h6, h7]; try omega], hO.below⟩
      · skip
        refine s_dec (p := (v.min : Int) = c.v.min) false (by kernel_rfl) (fun _ => by kernel_rfl) (decide_eq_false (h5)) ?_
        refine s_val (.bool false) (by kernel_rfl) (fun _ => by kernel_rfl) ?_
        refine s_val (.bool false) (by kernel_rfl) (fun _ => by kernel_rfl) ?_
        refine s_val (.bool false) (by kernel_rfl) (fun _ => by kernel_rfl) ?_
        refine s_skip (by kernel_rfl) ?_
        refine s_skip (by kernel_rfl) ?_
        refine s_skip (by kernel_rfl) ?_
        refine s_skip (by kernel_rfl) ?_
        refine s_skip (by kernel_rfl) ?_
        refine s_skip (by kernel_rfl) ?_
        refine s_skip (by kernel_rfl) ?_
        refine s_skip (by kernel_rfl) ?_
        refine s_skip (by kernel_rfl) ?_
        refine s_skip (by kernel_rfl) ?_
        refine s_val (.bool false) (by kernel_rfl) (fun _ => by kernel_rfl) ?_
        refine s_val (.bool false) (by kernel_rfl) (fun _ => by kernel_rfl) ?_
        refine s_nil ?_
        refine fin_seq ?_
        refine ok_ret ?_
        refine fin_ret (.bool false) Tryz.results29 (by kernel_rfl) ?_
        exact fun w hO => ⟨by rw [show beginsB c v p = false from by unfold beginsB; simp [h1, h2, h5]; try omega], hO.below⟩
  · skip
    refine s_dec (p := (p : Int) < 1) false (by kernel_rfl) (fun _ => by kernel_rfl) (decide_eq_false (h1)) ?_
    refine s_val (.bool false) (by kernel_rfl) (fun _ => by kernel_rfl) ?_
    refine s_val (.pointer (some ⟨b2, 0, none⟩)) (by kernel_rfl) (fun _ => by kernel_rfl) ?_
    refine s_load 0 ⟨b2, (verV v).cells, 24⟩ (off := 0) (.int .i64 v.maj) (by kernel_rfl) rfl (by kernel_rfl) (by kernel_rfl) (by kernel_rfl) ?_
    refine s_val (.pointer (some ⟨b1, 2, none⟩)) (by kernel_rfl) (fun _ => by kernel_rfl) ?_
    refine s_val (.pointer (some ⟨b1, 2, none⟩)) (by kernel_rfl) (fun _ => by kernel_rfl) ?_
    refine s_load 1 ⟨b1, (coV c).cells, 26⟩ (off := 2) (.int .i64 c.v.maj) (by kernel_rfl) rfl (by kernel_rfl) (by kernel_rfl) (by kernel_rfl) ?_
    by_cases h8 : (v.maj : Int) = c.v.maj
    · skip
      refine s_dec (p := (v.maj : Int) = c.v.maj) true (by kernel_rfl) (fun _ => by kernel_rfl) (decide_eq_true (h8)) ?_
      refine s_val (.bool true) (by kernel_rfl) (fun _ => by kernel_rfl) ?_
      refine s_val (.bool true) (by kernel_rfl) (fun _ => by kernel_rfl) ?_
      refine s_val (.int .i64 p) (by kernel_rfl) (fun _ => by kernel_rfl) ?_
      by_cases h9 : (p : Int) < 2
      · skip
        refine s_dec (p := (p : Int) < 2) true (by kernel_rfl) (fun _ => by kernel_rfl) (decide_eq_true (h9)) ?_
        refine s_val (.bool true) (by kernel_rfl) (fun _ => by kernel_rfl) ?_
        refine s_skip (by kernel_rfl) ?_
        refine s_skip (by kernel_rfl) ?_
        refine s_skip (by kernel_rfl) ?_
        refine s_skip (by kernel_rfl) ?_
        refine s_skip (by kernel_rfl) ?_
        refine s_skip (by kernel_rfl) ?_
        refine s_val (.bool true) (by kernel_rfl) (fun _ => by kernel_rfl) ?_
        refine s_val (.bool true) (by kernel_rfl) (fun _ => by kernel_rfl) ?_
        refine s_val (.bool true) (by kernel_rfl) (fun _ => by kernel_rfl) ?_
        refine s_val (.int .i64 p) (by kernel_rfl) (fun _ => by kernel_rfl) ?_
        by_cases h10 : (p : Int) < 3
        · skip
          refine s_dec (p := (p : Int) < 3) true (by kernel_rfl) (fun _ => by kernel_rfl) (decide_eq_true (h10)) ?_
          refine s_val (.bool true) (by kernel_rfl) (fun _ => by kernel_rfl) ?_
          refine s_skip (by kernel_rfl) ?_
          refine s_skip (by kernel_rfl) ?_
          refine s_skip (by kernel_rfl) ?_
          refine s_skip (by kernel_rfl) ?_
          refine s_skip (by kernel_rfl) ?_
          refine s_skip (by kernel_rfl) ?_
          refine s_val (.bool true) (by kernel_rfl) (fun _ => by kernel_rfl) ?_
          refine s_val (.bool true) (by kernel_rfl) (fun _ => by kernel_rfl) ?_
          refine s_val (.bool true) (by kernel_rfl) (fun _ => by kernel_rfl) ?_
          refine s_nil ?_
          refine fin_seq ?_
          refine ok_ret ?_
          refine fin_ret (.bool true) Tryz.results29 (by kernel_rfl) ?_
          exact fun w hO => ⟨by rw [show beginsB c v p = true from by unfold beginsB; simp [h1, h8, h9, h10]; try omega], hO.below⟩
        · skip
          refine s_dec (p := (p : Int) < 3) false (by kernel_rfl) (fun _ => by kernel_rfl) (decide_eq_false (h10)) ?_
          refine s_val (.bool false) (by kernel_rfl) (fun _ => by kernel_rfl) ?_
          refine s_val (.pointer (some ⟨b2, 2, none⟩)) (by kernel_rfl) (fun _ => by kernel_rfl) ?_
          refine s_load 0 ⟨b2, (verV v).cells, 24⟩ (off := 2) (.int .i64 v.pat) (by kernel_rfl) rfl (by kernel_rfl) (by kernel_rfl) (by kernel_rfl) ?_
          refine s_val (.pointer (some ⟨b1, 2, none⟩)) (by kernel_rfl) (fun _ => by kernel_rfl) ?_
          refine s_val (.pointer (some ⟨b1, 4, none⟩)) (by kernel_rfl) (fun _ => by kernel_rfl) ?_
          refine s_load 1 ⟨b1, (coV c).cells, 26⟩ (off := 4) (.int .i64 c.v.pat) (by kernel_rfl) rfl (by kernel_rfl) (by kernel_rfl) (by kernel_rfl) ?_
          by_cases h11 : (v.pat : Int) = c.v.pat
          · skip
            refine s_dec (p := (v.pat : Int) = c.v.pat) true (by kernel_rfl) (fun _ => by kernel_rfl) (decide_eq_true (h11)) ?_
            refine s_val (.bool true) (by kernel_rfl) (fun _ => by kernel_rfl) ?_
            refine s_val (.bool true) (by kernel_rfl) (fun _ => by kernel_rfl) ?_
            refine s_val (.bool true) (by kernel_rfl) (fun _ => by kernel_rfl) ?_
            refine s_nil ?_
            refine fin_seq ?_
            refine ok_ret ?_
            refine fin_ret (.bool true) Tryz.results29 (by kernel_rfl) ?_
            exact fun w hO => ⟨by rw [show beginsB c v p = true from by unfold beginsB; simp [h1, h8, h9, h10, h11]; try omega], hO.below⟩
          · skip
            refine s_dec (p := (v.pat : Int) = c.v.pat) false (by kernel_rfl) (fun _ => by kernel_rfl) (decide_eq_false (h11)) ?_
            refine s_val (.bool false) (by kernel_rfl) (fun _ => by kernel_rfl) ?_
            refine s_val (.bool false) (by kernel_rfl) (fun _ => by kernel_rfl) ?_
            refine s_val (.bool false) (by kernel_rfl) (fun _ => by kernel_rfl) ?_
            refine s_nil ?_
            refine fin_seq ?_
            refine ok_ret ?_
            refine fin_ret (.bool false) Tryz.results29 (by kernel_rfl) ?_
            exact fun w hO => ⟨by rw [show beginsB c v p = false from by unfold beginsB; simp [h1, h8, h9, h10, h11]; try omega], hO.below⟩
      · skip
        refine s_dec (p := (p : Int) < 2) false (by kernel_rfl) (fun _ => by kernel_rfl) (decide_eq_false (h9)) ?_
        refine s_val (.bool false) (by kernel_rfl) (fun _ => by kernel_rfl) ?_
        refine s_val (.pointer (some ⟨b2, 1, none⟩)) (by kernel_rfl) (fun _ => by kernel_rfl) ?_
        refine s_load 0 ⟨b2, (verV v).cells, 24⟩ (off := 1) (.int .i64 v.min) (by kernel_rfl) rfl (by kernel_rfl) (by kernel_rfl) (by kernel_rfl) ?_
        refine s_val (.pointer (some ⟨b1, 2, none⟩)) (by kernel_rfl) (fun _ => by kernel_rfl) ?_
        refine s_val (.pointer (some ⟨b1, 3, none⟩)) (by kernel_rfl) (fun _ => by kernel_rfl) ?_
        refine s_load 1 ⟨b1, (coV c).cells, 26⟩ (off := 3) (.int .i64 c.v.min) (by kernel_rfl) rfl (by kernel_rfl) (by kernel_rfl) (by kernel_rfl) ?_
        by_cases h12 : (v.min : Int) = c.v.min
        · skip
          refine s_dec (p := (v.min : Int) = c.v.min) true (by kernel_rfl) (fun _ => by kernel_rfl) (decide_eq_true (h12)) ?_
          refine s_val (.bool true) (by kernel_rfl) (fun _ => by kernel_rfl) ?_
          refine s_val (.bool true) (by kernel_rfl) (fun _ => by kernel_rfl) ?_
          refine s_val (.bool true) (by kernel_rfl) (fun _ => by kernel_rfl) ?_
          refine s_val (.int .i64 p) (by kernel_rfl) (fun _ => by kernel_rfl) ?_
          by_cases h13 : (p : Int) < 3
          · skip
            refine s_dec (p := (p : Int) < 3) true (by kernel_rfl) (fun _ => by kernel_rfl) (decide_eq_true (h13)) ?_
            refine s_val (.bool true) (by kernel_rfl) (fun _ => by kernel_rfl) ?_
            refine s_skip (by kernel_rfl) ?_
            refine s_skip (by kernel_rfl) ?_
            refine s_skip (by kernel_rfl) ?_
            refine s_skip (by kernel_rfl) ?_
            refine s_skip (by kernel_rfl) ?_
            refine s_skip (by kernel_rfl) ?_
            refine s_val (.bool true) (by kernel_rfl) (fun _ => by kernel_rfl) ?_
            refine s_val (.bool true) (by kernel_rfl) (fun _ => by kernel_rfl) ?_
            refine s_val (.bool true) (by kernel_rfl) (fun _ => by kernel_rfl) ?_
            refine s_nil ?_
            refine fin_seq ?_
            refine ok_ret ?_
            refine fin_ret (.bool true) Tryz.results29 (by kernel_rfl) ?_
            exact fun w hO => ⟨by rw [show beginsB c v p = true from by unfold beginsB; simp [h1, h8, h9, h12, h13]; try omega], hO.below⟩
          · skip
            refine s_dec (p := (p : Int) < 3) false (by kernel_rfl) (fun _ => by kernel_rfl) (decide_eq_false (h13)) ?_
            refine s_val (.bool false) (by kernel_rfl) (fun _ => by kernel_rfl) ?_
            refine s_val (.pointer (some ⟨b2, 2, none⟩)) (by kernel_rfl) (fun _ => by kernel_rfl) ?_
            refine s_load 0 ⟨b2, (verV v).cells, 24⟩ (off := 2) (.int .i64 v.pat) (by kernel_rfl) rfl (by kernel_rfl) (by kernel_rfl) (by kernel_rfl) ?_
            refine s_val (.pointer (some ⟨b1, 2, none⟩)) (by kernel_rfl) (fun _ => by kernel_rfl) ?_
            refine s_val (.pointer (some ⟨b1, 4, none⟩)) (by kernel_rfl) (fun _ => by kernel_rfl) ?_
            refine s_load 1 ⟨b1, (coV c).cells, 26⟩ (off := 4) (.int .i64 c.v.pat) (by kernel_rfl) rfl (by kernel_rfl) (by kernel_rfl) (by kernel_rfl) ?_
            by_cases h14 : (v.pat : Int) = c.v.pat
            · skip
              refine s_dec (p := (v.pat : Int) = c.v.pat) true (by kernel_rfl) (fun _ => by kernel_rfl) (decide_eq_true (h14)) ?_
              refine s_val (.bool true) (by kernel_rfl) (fun _ => by kernel_rfl) ?_
              refine s_val (.bool true) (by kernel_rfl) (fun _ => by kernel_rfl) ?_
              refine s_val (.bool true) (by kernel_rfl) (fun _ => by kernel_rfl) ?_
              refine s_nil ?_
              refine fin_seq ?_
              refine ok_ret ?_
              refine fin_ret (.bool true) Tryz.results29 (by kernel_rfl) ?_
              exact fun w hO => ⟨by rw [show beginsB c v p = true from by unfold beginsB; simp [h1, h8, h9, h12, h13, h14]; try omega], hO.below⟩
            · skip
              refine s_dec (p := (v.pat : Int) = c.v.pat) false (by kernel_rfl) (fun _ => by kernel_rfl) (decide_eq_false (h14)) ?_
              refine s_val (.bool false) (by kernel_rfl) (fun _ => by kernel_rfl) ?_
              refine s_val (.bool false) (by kernel_rfl) (fun _ => by kernel_rfl) ?_
              refine s_val (.bool false) (by kernel_rfl) (fun _ => by kernel_rfl) ?_
              refine s_nil ?_
              refine fin_seq ?_
              refine ok_ret ?_
              refine fin_ret (.bool false) Tryz.results29 (by kernel_rfl) ?_
              exact fun w hO => ⟨by rw [show beginsB c v p = false from by unfold beginsB; simp [h1, h8, h9, h12, h13, h14]; try omega], hO.below⟩
        · skip
          refine s_dec (p := (v.min : Int) = c.v.min) false (by kernel_rfl) (fun _ => by kernel_rfl) (decide_eq_false (h12)) ?_
          refine s_val (.bool false) (by kernel_rfl) (fun _ => by kernel_rfl) ?_
          refine s_val (.bool false) (by kernel_rfl) (fun _ => by kernel_rfl) ?_
          refine s_val (.bool false) (by kernel_rfl) (fun _ => by kernel_rfl) ?_
          refine s_skip (by kernel_rfl) ?_
          refine s_skip (by kernel_rfl) ?_
          refine s_skip (by kernel_rfl) ?_
          refine s_skip (by kernel_rfl) ?_
          refine s_skip (by kernel_rfl) ?_
          refine s_skip (by kernel_rfl) ?_
          refine s_skip (by kernel_rfl) ?_
          refine s_skip (by kernel_rfl) ?_
          refine s_skip (by kernel_rfl) ?_
          refine s_skip (by kernel_rfl) ?_
          refine s_val (.bool false) (by kernel_rfl) (fun _ => by kernel_rfl) ?_
          refine s_val (.bool false) (by kernel_rfl) (fun _ => by kernel_rfl) ?_
          refine s_nil ?_
          refine fin_seq ?_
          refine ok_ret ?_
          refine fin_ret (.bool false) Tryz.results29 (by kernel_rfl) ?_
          exact fun w hO => ⟨by rw [show beginsB c v p = false from by unfold beginsB; simp [h1, h8, h9, h12]; try omega], hO.below⟩
    · skip
      refine s_dec (p := (v.maj : Int) = c.v.maj) false (by kernel_rfl) (fun _ => by kernel_rfl) (decide_eq_false (h8)) ?_
      refine s_val (.bool false) (by kernel_rfl) (fun _ => by kernel_rfl) ?_
      refine s_val (.bool false) (by kernel_rfl) (fun _ => by kernel_rfl) ?_
      refine s_skip (by kernel_rfl) ?_
      refine s_skip (by kernel_rfl) ?_
      refine s_skip (by kernel_rfl) ?_
      refine s_skip (by kernel_rfl) ?_
      refine s_skip (by kernel_rfl) ?_
      refine s_skip (by kernel_rfl) ?_
      refine s_skip (by kernel_rfl) ?_
      refine s_skip (by kernel_rfl) ?_
      refine s_skip (by kernel_rfl) ?_
      refine s_skip (by kernel_rfl) ?_
      refine s_val (.bool false) (by kernel_rfl) (fun _ => by kernel_rfl) ?_
      refine s_val (.bool false) (by kernel_rfl) (fun _ => by kernel_rfl) ?_
      refine s_skip (by kernel_rfl) ?_
      refine s_skip (by kernel_rfl) ?_
      refine s_skip (by kernel_rfl) ?_
      refine s_skip (by kernel_rfl) ?_
      refine s_skip (by kernel_rfl) ?_
      refine s_skip (by kernel_rfl) ?_
      refine s_skip (by kernel_rfl) ?_
      refine s_skip (by kernel_rfl) ?_
      refine s_skip (by kernel_rfl) ?_
      refine s_skip (by kernel_rfl) ?_
      refine s_val (.bool false) (by kernel_rfl) (fun _ => by kernel_rfl) ?_
      refine s_val (.bool false) (by kernel_rfl) (fun _ => by kernel_rfl) ?_
      refine s_nil ?_
      refine fin_seq ?_
      refine ok_ret ?_
      refine fin_ret (.bool false) Tryz.results29 (by kernel_rfl) ?_
      exact fun w hO => ⟨by rw [show beginsB c v p = false from by unfold beginsB; simp [h1, h8]; try omega], hO.below⟩
theorem over6_any (c : Co) (v : Ver) (W : World) : Calls Tryz.prog 61 #[coV c, verV v] W fun e w' => e = .returned (.bool (overB c v)) ∧ Below W.heap.size W w' := by
  refine calls_ok (n := 45) Tryz.func61 rfl (by kernel_rfl) (by kernel_rfl) ?_
  refine ok_seq ?_
  refine ok_region ?_
  refine s_box (coV c) (by kernel_rfl) rfl (by kernel_rfl) (fun b1 => ?_)
  refine s_box (verV v) (by kernel_rfl) rfl (by kernel_rfl) (fun b2 => ?_)
  refine s_val (.bool false) (by kernel_rfl) (fun _ => by kernel_rfl) ?_
  refine s_nil ?_
  refine fin_seq ?_
  refine ok_seq ?_
  refine ok_seq ?_
  refine ok_region ?_
  refine s_val (.pointer (some ⟨b2, 0, none⟩)) (by kernel_rfl) (fun _ => by kernel_rfl) ?_
  refine s_load 0 ⟨b2, (verV v).cells, 24⟩ (off := 0) (.int .i64 v.maj) (by kernel_rfl) rfl (by kernel_rfl) (by kernel_rfl) (by kernel_rfl) ?_
  refine s_val (.pointer (some ⟨b1, 2, none⟩)) (by kernel_rfl) (fun _ => by kernel_rfl) ?_
  refine s_val (.pointer (some ⟨b1, 2, none⟩)) (by kernel_rfl) (fun _ => by kernel_rfl) ?_
  refine s_load 1 ⟨b1, (coV c).cells, 26⟩ (off := 2) (.int .i64 c.v.maj) (by kernel_rfl) rfl (by kernel_rfl) (by kernel_rfl) (by kernel_rfl) ?_
  by_cases h1 : (v.maj : Int) = c.v.maj
  · skip
    refine s_ndec (p := (v.maj : Int) = c.v.maj) true (by kernel_rfl) (fun _ => by kernel_rfl) (decide_eq_true (h1)) ?_
    refine s_val (.bool false) (by kernel_rfl) (fun _ => by kernel_rfl) ?_
    refine s_val (.pointer (some ⟨b1, 1, none⟩)) (by kernel_rfl) (fun _ => by kernel_rfl) ?_
    refine s_load 1 ⟨b1, (coV c).cells, 26⟩ (off := 1) (.int .i64 c.parts) (by kernel_rfl) rfl (by kernel_rfl) (by kernel_rfl) (by kernel_rfl) ?_
    by_cases h2 : (c.parts : Int) = 1
    · skip
      refine s_dec (p := (c.parts : Int) = 1) true (by kernel_rfl) (fun _ => by kernel_rfl) (decide_eq_true (h2)) ?_
      refine s_val (.bool true) (by kernel_rfl) (fun _ => by kernel_rfl) ?_
      refine s_nil ?_
      refine fin_seq ?_
      refine ok_true (by kernel_rfl) ?_
      refine ok_seq ?_
      refine ok_region ?_
      refine s_val (.pointer (some ⟨b2, 0, none⟩)) (by kernel_rfl) (fun _ => by kernel_rfl) ?_
      refine s_load 0 ⟨b2, (verV v).cells, 24⟩ (off := 0) (.int .i64 v.maj) (by kernel_rfl) rfl (by kernel_rfl) (by kernel_rfl) (by kernel_rfl) ?_
      refine s_val (.pointer (some ⟨b1, 2, none⟩)) (by kernel_rfl) (fun _ => by kernel_rfl) ?_
      refine s_val (.pointer (some ⟨b1, 2, none⟩)) (by kernel_rfl) (fun _ => by kernel_rfl) ?_
      refine s_load 1 ⟨b1, (coV c).cells, 26⟩ (off := 2) (.int .i64 c.v.maj) (by kernel_rfl) rfl (by kernel_rfl) (by kernel_rfl) (by kernel_rfl) ?_
      by_cases h3 : (c.v.maj : Int) < v.maj
      · skip
        refine s_dec (p := (c.v.maj : Int) < v.maj) true (by kernel_rfl) (fun _ => by kernel_rfl) (decide_eq_true (h3)) ?_
        refine s_val (.bool true) (by kernel_rfl) (fun _ => by kernel_rfl) ?_
        refine s_nil ?_
        refine fin_seq ?_
        refine ok_ret ?_
        refine fin_seq_ret ?_
        refine fin_ret (.bool true) Tryz.results61 (by kernel_rfl) ?_
        exact fun w hO => ⟨by rw [show overB c v = true from by unfold overB; simp [h1, h2, h3]; try omega], hO.below⟩
      · skip
        refine s_dec (p := (c.v.maj : Int) < v.maj) false (by kernel_rfl) (fun _ => by kernel_rfl) (decide_eq_false (h3)) ?_
        refine s_val (.bool false) (by kernel_rfl) (fun _ => by kernel_rfl) ?_
        refine s_nil ?_
        refine fin_seq ?_
        refine ok_ret ?_
        refine fin_seq_ret ?_
        refine fin_ret (.bool false) Tryz.results61 (by kernel_rfl) ?_
        exact fun w hO => ⟨by rw [show overB c v = false from by unfold overB; simp [h1, h2, h3]; try omega], hO.below⟩
    · skip
      refine s_dec (p := (c.parts : Int) = 1) false (by kernel_rfl) (fun _ => by kernel_rfl) (decide_eq_false (h2)) ?_
      refine s_val (.bool false) (by kernel_rfl) (fun _ => by kernel_rfl) ?_
      refine s_nil ?_
      refine fin_seq ?_
      refine ok_false (by kernel_rfl) ?_
      refine ok_skip ?_
      refine fin_seq ?_
      refine ok_seq ?_
      refine ok_seq ?_
      refine ok_region ?_
      refine s_val (.pointer (some ⟨b2, 1, none⟩)) (by kernel_rfl) (fun _ => by kernel_rfl) ?_
      refine s_load 0 ⟨b2, (verV v).cells, 24⟩ (off := 1) (.int .i64 v.min) (by kernel_rfl) rfl (by kernel_rfl) (by kernel_rfl) (by kernel_rfl) ?_
      refine s_val (.pointer (some ⟨b1, 2, none⟩)) (by kernel_rfl) (fun _ => by kernel_rfl) ?_
      refine s_val (.pointer (some ⟨b1, 3, none⟩)) (by kernel_rfl) (fun _ => by kernel_rfl) ?_
      refine s_load 1 ⟨b1, (coV c).cells, 26⟩ (off := 3) (.int .i64 c.v.min) (by kernel_rfl) rfl (by kernel_rfl) (by kernel_rfl) (by kernel_rfl) ?_
      by_cases h4 : (v.min : Int) = c.v.min
      · skip
        refine s_ndec (p := (v.min : Int) = c.v.min) true (by kernel_rfl) (fun _ => by kernel_rfl) (decide_eq_true (h4)) ?_
        refine s_val (.bool false) (by kernel_rfl) (fun _ => by kernel_rfl) ?_
        refine s_val (.pointer (some ⟨b1, 1, none⟩)) (by kernel_rfl) (fun _ => by kernel_rfl) ?_
        refine s_load 1 ⟨b1, (coV c).cells, 26⟩ (off := 1) (.int .i64 c.parts) (by kernel_rfl) rfl (by kernel_rfl) (by kernel_rfl) (by kernel_rfl) ?_
        by_cases h5 : (c.parts : Int) = 2
        · skip
          refine s_dec (p := (c.parts : Int) = 2) true (by kernel_rfl) (fun _ => by kernel_rfl) (decide_eq_true (h5)) ?_
          refine s_val (.bool true) (by kernel_rfl) (fun _ => by kernel_rfl) ?_
          refine s_nil ?_
          refine fin_seq ?_
          refine ok_true (by kernel_rfl) ?_
          refine ok_seq ?_
          refine ok_region ?_
          refine s_val (.pointer (some ⟨b2, 1, none⟩)) (by kernel_rfl) (fun _ => by kernel_rfl) ?_
          refine s_load 0 ⟨b2, (verV v).cells, 24⟩ (off := 1) (.int .i64 v.min) (by kernel_rfl) rfl (by kernel_rfl) (by kernel_rfl) (by kernel_rfl) ?_
          refine s_val (.pointer (some ⟨b1, 2, none⟩)) (by kernel_rfl) (fun _ => by kernel_rfl) ?_
          refine s_val (.pointer (some ⟨b1, 3, none⟩)) (by kernel_rfl) (fun _ => by kernel_rfl) ?_
          refine s_load 1 ⟨b1, (coV c).cells, 26⟩ (off := 3) (.int .i64 c.v.min) (by kernel_rfl) rfl (by kernel_rfl) (by kernel_rfl) (by kernel_rfl) ?_
          by_cases h6 : (c.v.min : Int) < v.min
          · skip
            refine s_dec (p := (c.v.min : Int) < v.min) true (by kernel_rfl) (fun _ => by kernel_rfl) (decide_eq_true (h6)) ?_
            refine s_val (.bool true) (by kernel_rfl) (fun _ => by kernel_rfl) ?_
            refine s_nil ?_
            refine fin_seq ?_
            refine ok_ret ?_
            refine fin_seq_ret ?_
            refine fin_ret (.bool true) Tryz.results61 (by kernel_rfl) ?_
            exact fun w hO => ⟨by rw [show overB c v = true from by unfold overB; simp [h1, h2, h4, h5, h6]; try omega], hO.below⟩
          · skip
            refine s_dec (p := (c.v.min : Int) < v.min) false (by kernel_rfl) (fun _ => by kernel_rfl) (decide_eq_false (h6)) ?_
            refine s_val (.bool false) (by kernel_rfl) (fun _ => by kernel_rfl) ?_
            refine s_nil ?_
            refine fin_seq ?_
            refine ok_ret ?_
            refine fin_seq_ret ?_
            refine fin_ret (.bool false) Tryz.results61 (by kernel_rfl) ?_
            exact fun w hO => ⟨by rw [show overB c v = false from by unfold overB; simp [h1, h2, h4, h5, h6]; try omega], hO.below⟩
        · skip
          refine s_dec (p := (c.parts : Int) = 2) false (by kernel_rfl) (fun _ => by kernel_rfl) (decide_eq_false (h5)) ?_
          refine s_val (.bool false) (by kernel_rfl) (fun _ => by kernel_rfl) ?_
          refine s_nil ?_
          refine fin_seq ?_
          refine ok_false (by kernel_rfl) ?_
          refine ok_skip ?_
          refine fin_seq ?_
          refine ok_seq ?_
          refine ok_region ?_
          refine s_val (.pointer (some ⟨b2, 2, none⟩)) (by kernel_rfl) (fun _ => by kernel_rfl) ?_
          refine s_load 0 ⟨b2, (verV v).cells, 24⟩ (off := 2) (.int .i64 v.pat) (by kernel_rfl) rfl (by kernel_rfl) (by kernel_rfl) (by kernel_rfl) ?_
          refine s_val (.pointer (some ⟨b1, 2, none⟩)) (by kernel_rfl) (fun _ => by kernel_rfl) ?_
          refine s_val (.pointer (some ⟨b1, 4, none⟩)) (by kernel_rfl) (fun _ => by kernel_rfl) ?_
          refine s_load 1 ⟨b1, (coV c).cells, 26⟩ (off := 4) (.int .i64 c.v.pat) (by kernel_rfl) rfl (by kernel_rfl) (by kernel_rfl) (by kernel_rfl) ?_
          by_cases h7 : (c.v.pat : Int) < v.pat
          · skip
            refine s_dec (p := (c.v.pat : Int) < v.pat) true (by kernel_rfl) (fun _ => by kernel_rfl) (decide_eq_true (h7)) ?_
            refine s_val (.bool true) (by kernel_rfl) (fun _ => by kernel_rfl) ?_
            refine s_nil ?_
            refine fin_seq ?_
            refine ok_ret ?_
            refine fin_ret (.bool true) Tryz.results61 (by kernel_rfl) ?_
            exact fun w hO => ⟨by rw [show overB c v = true from by unfold overB; simp [h1, h2, h4, h5, h7]; try omega], hO.below⟩
          · skip
            refine s_dec (p := (c.v.pat : Int) < v.pat) false (by kernel_rfl) (fun _ => by kernel_rfl) (decide_eq_false (h7)) ?_
            refine s_val (.bool false) (by kernel_rfl) (fun _ => by kernel_rfl) ?_
            refine s_nil ?_
            refine fin_seq ?_
            refine ok_ret ?_
            refine fin_ret (.bool false) Tryz.results61 (by kernel_rfl) ?_
            exact fun w hO => ⟨by rw [show overB c v = false from by unfold overB; simp [h1, h2, h4, h5, h7]; try omega], hO.below⟩
      · skip
        refine s_ndec (p := (v.min : Int) = c.v.min) false (by kernel_rfl) (fun _ => by kernel_rfl) (decide_eq_false (h4)) ?_
        refine s_val (.bool true) (by kernel_rfl) (fun _ => by kernel_rfl) ?_
        refine s_skip (by kernel_rfl) ?_
        refine s_skip (by kernel_rfl) ?_
        refine s_skip (by kernel_rfl) ?_
        refine s_val (.bool true) (by kernel_rfl) (fun _ => by kernel_rfl) ?_
        refine s_nil ?_
        refine fin_seq ?_
        refine ok_true (by kernel_rfl) ?_
        refine ok_seq ?_
        refine ok_region ?_
        refine s_val (.pointer (some ⟨b2, 1, none⟩)) (by kernel_rfl) (fun _ => by kernel_rfl) ?_
        refine s_load 0 ⟨b2, (verV v).cells, 24⟩ (off := 1) (.int .i64 v.min) (by kernel_rfl) rfl (by kernel_rfl) (by kernel_rfl) (by kernel_rfl) ?_
        refine s_val (.pointer (some ⟨b1, 2, none⟩)) (by kernel_rfl) (fun _ => by kernel_rfl) ?_
        refine s_val (.pointer (some ⟨b1, 3, none⟩)) (by kernel_rfl) (fun _ => by kernel_rfl) ?_
        refine s_load 1 ⟨b1, (coV c).cells, 26⟩ (off := 3) (.int .i64 c.v.min) (by kernel_rfl) rfl (by kernel_rfl) (by kernel_rfl) (by kernel_rfl) ?_
        by_cases h8 : (c.v.min : Int) < v.min
        · skip
          refine s_dec (p := (c.v.min : Int) < v.min) true (by kernel_rfl) (fun _ => by kernel_rfl) (decide_eq_true (h8)) ?_
          refine s_val (.bool true) (by kernel_rfl) (fun _ => by kernel_rfl) ?_
          refine s_nil ?_
          refine fin_seq ?_
          refine ok_ret ?_
          refine fin_seq_ret ?_
          refine fin_ret (.bool true) Tryz.results61 (by kernel_rfl) ?_
          exact fun w hO => ⟨by rw [show overB c v = true from by unfold overB; simp [h1, h2, h4, h8]; try omega], hO.below⟩
        · skip
          refine s_dec (p := (c.v.min : Int) < v.min) false (by kernel_rfl) (fun _ => by kernel_rfl) (decide_eq_false (h8)) ?_
          refine s_val (.bool false) (by kernel_rfl) (fun _ => by kernel_rfl) ?_
          refine s_nil ?_
          refine fin_seq ?_
          refine ok_ret ?_
          refine fin_seq_ret ?_
          refine fin_ret (.bool false) Tryz.results61 (by kernel_rfl) ?_
          exact fun w hO => ⟨by rw [show overB c v = false from by unfold overB; simp [h1, h2, h4, h8]; try omega], hO.below⟩
  · skip
    refine s_ndec (p := (v.maj : Int) = c.v.maj) false (by kernel_rfl) (fun _ => by kernel_rfl) (decide_eq_false (h1)) ?_
    refine s_val (.bool true) (by kernel_rfl) (fun _ => by kernel_rfl) ?_
    refine s_skip (by kernel_rfl) ?_
    refine s_skip (by kernel_rfl) ?_
    refine s_skip (by kernel_rfl) ?_
    refine s_val (.bool true) (by kernel_rfl) (fun _ => by kernel_rfl) ?_
    refine s_nil ?_
    refine fin_seq ?_
    refine ok_true (by kernel_rfl) ?_
    refine ok_seq ?_
    refine ok_region ?_
    refine s_val (.pointer (some ⟨b2, 0, none⟩)) (by kernel_rfl) (fun _ => by kernel_rfl) ?_
    refine s_load 0 ⟨b2, (verV v).cells, 24⟩ (off := 0) (.int .i64 v.maj) (by kernel_rfl) rfl (by kernel_rfl) (by kernel_rfl) (by kernel_rfl) ?_
    refine s_val (.pointer (some ⟨b1, 2, none⟩)) (by kernel_rfl) (fun _ => by kernel_rfl) ?_
    refine s_val (.pointer (some ⟨b1, 2, none⟩)) (by kernel_rfl) (fun _ => by kernel_rfl) ?_
    refine s_load 1 ⟨b1, (coV c).cells, 26⟩ (off := 2) (.int .i64 c.v.maj) (by kernel_rfl) rfl (by kernel_rfl) (by kernel_rfl) (by kernel_rfl) ?_
    by_cases h9 : (c.v.maj : Int) < v.maj
    · skip
      refine s_dec (p := (c.v.maj : Int) < v.maj) true (by kernel_rfl) (fun _ => by kernel_rfl) (decide_eq_true (h9)) ?_
      refine s_val (.bool true) (by kernel_rfl) (fun _ => by kernel_rfl) ?_
      refine s_nil ?_
      refine fin_seq ?_
      refine ok_ret ?_
      refine fin_seq_ret ?_
      refine fin_ret (.bool true) Tryz.results61 (by kernel_rfl) ?_
      exact fun w hO => ⟨by rw [show overB c v = true from by unfold overB; simp [h1, h9]; try omega], hO.below⟩
    · skip
      refine s_dec (p := (c.v.maj : Int) < v.maj) false (by kernel_rfl) (fun _ => by kernel_rfl) (decide_eq_false (h9)) ?_
      refine s_val (.bool false) (by kernel_rfl) (fun _ => by kernel_rfl) ?_
      refine s_nil ?_
      refine fin_seq ?_
      refine ok_ret ?_
      refine fin_seq_ret ?_
      refine fin_ret (.bool false) Tryz.results61 (by kernel_rfl) ?_
      exact fun w hO => ⟨by rw [show overB c v = false from by unfold overB; simp [h1, h9]; try omega], hO.below⟩
set_option maxHeartbeats 4000000 in
theorem says6_any (c : Co) (v : Ver) (W : World) (ho : 1 ≤ c.op ∧ c.op ≤ 9) : Calls Tryz.prog 26 #[coV c, verV v] W fun e w' => e = .returned (.bool (saysB c v)) ∧ Below W.heap.size W w' := by
  obtain ⟨sb, hsb⟩ : ∃ q, beginsB c v c.parts = q := ⟨_, rfl⟩
  obtain ⟨ub, hub⟩ : ∃ q, overB c v = q := ⟨_, rfl⟩
  obtain ⟨mb, hmb⟩ : ∃ q, beginsB c v (min c.parts 2) = q := ⟨_, rfl⟩
  obtain ⟨n1, hn1⟩ : ∃ q, beginsB c v 1 = q := ⟨_, rfl⟩
  obtain ⟨n2, hn2⟩ : ∃ q, beginsB c v 2 = q := ⟨_, rfl⟩
  obtain ⟨n3, hn3⟩ : ∃ q, beginsB c v 3 = q := ⟨_, rfl⟩
  refine calls_ok (n := 92) Tryz.func26 rfl (by kernel_rfl) (by kernel_rfl) ?_
  refine ok_seq ?_
  refine ok_region ?_
  refine s_box (coV c) (by kernel_rfl) rfl (by kernel_rfl) (fun b1 => ?_)
  refine s_box (verV v) (by kernel_rfl) rfl (by kernel_rfl) (fun b2 => ?_)
  refine s_val (.bool false) (by kernel_rfl) (fun _ => by kernel_rfl) ?_
  refine s_nil ?_
  refine fin_seq ?_
  refine ok_seq ?_
  refine ok_region ?_
  refine s_load 1 ⟨b1, (coV c).cells, 26⟩ (off := 0) (coV c) (by kernel_rfl) rfl (by kernel_rfl) (by kernel_rfl) (by kernel_rfl) ?_
  refine s_load 0 ⟨b2, (verV v).cells, 24⟩ (off := 0) (verV v) (by kernel_rfl) rfl (by kernel_rfl) (by kernel_rfl) (by kernel_rfl) ?_
  refine s_val (.pointer (some ⟨b1, 1, none⟩)) (by kernel_rfl) (fun _ => by kernel_rfl) ?_
  refine s_load 1 ⟨b1, (coV c).cells, 26⟩ (off := 1) (.int .i64 c.parts) (by kernel_rfl) rfl (by kernel_rfl) (by kernel_rfl) (by kernel_rfl) ?_
  refine s_call (k := 29) (args := #[coV c, verV v, .int .i64 c.parts]) (.bool sb) (by kernel_rfl) (fun _ => by kernel_rfl) (fun w _ => ret_b hsb (begins6_any c v c.parts w)) ?_
  refine s_val (.bool sb) (by kernel_rfl) (fun _ => by kernel_rfl) ?_
  refine s_nil ?_
  refine fin_seq ?_
  refine ok_seq ?_
  refine ok_region ?_
  refine s_load 1 ⟨b1, (coV c).cells, 26⟩ (off := 0) (coV c) (by kernel_rfl) rfl (by kernel_rfl) (by kernel_rfl) (by kernel_rfl) ?_
  refine s_load 0 ⟨b2, (verV v).cells, 24⟩ (off := 0) (verV v) (by kernel_rfl) rfl (by kernel_rfl) (by kernel_rfl) (by kernel_rfl) ?_
  refine s_call (k := 61) (args := #[coV c, verV v]) (.bool ub) (by kernel_rfl) (fun _ => by kernel_rfl) (fun w _ => ret_b hub (over6_any c v w)) ?_
  refine s_val (.bool ub) (by kernel_rfl) (fun _ => by kernel_rfl) ?_
  refine s_nil ?_
  refine fin_seq ?_
  refine ok_seq ?_
  refine ok_seq ?_
  refine ok_region ?_
  refine s_val (.pointer (some ⟨b1, 0, none⟩)) (by kernel_rfl) (fun _ => by kernel_rfl) ?_
  refine s_load 1 ⟨b1, (coV c).cells, 26⟩ (off := 0) (.int .i64 c.op) (by kernel_rfl) rfl (by kernel_rfl) (by kernel_rfl) (by kernel_rfl) ?_
  refine s_nil ?_
  refine fin_seq ?_
  refine ok_block ?_
  refine ok_seq ?_
  refine ok_seq ?_
  refine ok_region ?_
  by_cases h1 : (c.op : Int) = 1
  · skip
    refine s_dec (p := (c.op : Int) = 1) true (by kernel_rfl) (fun _ => by kernel_rfl) (decide_eq_true (h1)) ?_
    refine s_val (.bool true) (by kernel_rfl) (fun _ => by kernel_rfl) ?_
    refine s_nil ?_
    refine fin_seq ?_
    refine ok_true (by kernel_rfl) ?_
    refine ok_skip ?_
    refine fin_seq ?_
    refine ok_true (by kernel_rfl) ?_
    refine ok_seq ?_
    refine ok_region ?_
    refine s_val (.bool sb) (by kernel_rfl) (fun _ => by kernel_rfl) ?_
    refine s_val (.bool sb) (by kernel_rfl) (fun _ => by kernel_rfl) ?_
    refine s_nil ?_
    refine fin_seq ?_
    refine ok_ret ?_
    refine fin_block_ret ?_
    refine fin_seq_ret ?_
    refine fin_ret (.bool sb) Tryz.results26 (by kernel_rfl) ?_
    exact fun w hO => ⟨by rw [show saysB c v = sb from by unfold saysB saysN; simp [hsb, hub, hmb, hn1, hn2, hn3, h1]; try (first | omega | grind)], hO.below⟩
  · skip
    refine s_dec (p := (c.op : Int) = 1) false (by kernel_rfl) (fun _ => by kernel_rfl) (decide_eq_false (h1)) ?_
    refine s_val (.bool false) (by kernel_rfl) (fun _ => by kernel_rfl) ?_
    refine s_nil ?_
    refine fin_seq ?_
    refine ok_false (by kernel_rfl) ?_
    refine ok_region ?_
    by_cases h2 : (c.op : Int) = 9
    · skip
      refine s_dec (p := (c.op : Int) = 9) true (by kernel_rfl) (fun _ => by kernel_rfl) (decide_eq_true (h2)) ?_
      refine s_val (.bool true) (by kernel_rfl) (fun _ => by kernel_rfl) ?_
      refine s_nil ?_
      refine fin_seq ?_
      refine ok_true (by kernel_rfl) ?_
      refine ok_seq ?_
      refine ok_region ?_
      refine s_val (.bool sb) (by kernel_rfl) (fun _ => by kernel_rfl) ?_
      refine s_val (.bool sb) (by kernel_rfl) (fun _ => by kernel_rfl) ?_
      refine s_nil ?_
      refine fin_seq ?_
      refine ok_ret ?_
      refine fin_block_ret ?_
      refine fin_seq_ret ?_
      refine fin_ret (.bool sb) Tryz.results26 (by kernel_rfl) ?_
      exact fun w hO => ⟨by rw [show saysB c v = sb from by unfold saysB saysN; simp [hsb, hub, hmb, hn1, hn2, hn3, h1, h2]; try (first | omega | grind)], hO.below⟩
    · skip
      refine s_dec (p := (c.op : Int) = 9) false (by kernel_rfl) (fun _ => by kernel_rfl) (decide_eq_false (h2)) ?_
      refine s_val (.bool false) (by kernel_rfl) (fun _ => by kernel_rfl) ?_
      refine s_nil ?_
      refine fin_seq ?_
      refine ok_false (by kernel_rfl) ?_
      refine ok_seq ?_
      refine ok_region ?_
      by_cases h3 : (c.op : Int) = 2
      · skip
        refine s_dec (p := (c.op : Int) = 2) true (by kernel_rfl) (fun _ => by kernel_rfl) (decide_eq_true (h3)) ?_
        refine s_val (.bool true) (by kernel_rfl) (fun _ => by kernel_rfl) ?_
        refine s_nil ?_
        refine fin_seq ?_
        refine ok_true (by kernel_rfl) ?_
        refine ok_seq ?_
        refine ok_region ?_
        refine s_val (.bool sb) (by kernel_rfl) (fun _ => by kernel_rfl) ?_
        cases h4 : sb with
        | true =>
          refine s_val (.bool false) (by kernel_rfl) (fun _ => by kernel_rfl) ?_
          refine s_val (.bool false) (by kernel_rfl) (fun _ => by kernel_rfl) ?_
          refine s_nil ?_
          refine fin_seq ?_
          refine ok_ret ?_
          refine fin_block_ret ?_
          refine fin_seq_ret ?_
          refine fin_ret (.bool false) Tryz.results26 (by kernel_rfl) ?_
          exact fun w hO => ⟨by rw [show saysB c v = false from by unfold saysB saysN; simp [hsb, hub, hmb, hn1, hn2, hn3, h1, h2, h3, h4]; try (first | omega | grind)], hO.below⟩
        | false =>
          refine s_val (.bool true) (by kernel_rfl) (fun _ => by kernel_rfl) ?_
          refine s_val (.bool true) (by kernel_rfl) (fun _ => by kernel_rfl) ?_
          refine s_nil ?_
          refine fin_seq ?_
          refine ok_ret ?_
          refine fin_block_ret ?_
          refine fin_seq_ret ?_
          refine fin_ret (.bool true) Tryz.results26 (by kernel_rfl) ?_
          exact fun w hO => ⟨by rw [show saysB c v = true from by unfold saysB saysN; simp [hsb, hub, hmb, hn1, hn2, hn3, h1, h2, h3, h4]; try (first | omega | grind)], hO.below⟩
      · skip
        refine s_dec (p := (c.op : Int) = 2) false (by kernel_rfl) (fun _ => by kernel_rfl) (decide_eq_false (h3)) ?_
        refine s_val (.bool false) (by kernel_rfl) (fun _ => by kernel_rfl) ?_
        refine s_nil ?_
        refine fin_seq ?_
        refine ok_false (by kernel_rfl) ?_
        refine ok_seq ?_
        refine ok_region ?_
        by_cases h5 : (c.op : Int) = 3
        · skip
          refine s_dec (p := (c.op : Int) = 3) true (by kernel_rfl) (fun _ => by kernel_rfl) (decide_eq_true (h5)) ?_
          refine s_val (.bool true) (by kernel_rfl) (fun _ => by kernel_rfl) ?_
          refine s_nil ?_
          refine fin_seq ?_
          refine ok_true (by kernel_rfl) ?_
          refine ok_seq ?_
          refine ok_region ?_
          refine s_val (.bool sb) (by kernel_rfl) (fun _ => by kernel_rfl) ?_
          cases h6 : sb with
          | true =>
            refine s_val (.bool false) (by kernel_rfl) (fun _ => by kernel_rfl) ?_
            refine s_val (.bool false) (by kernel_rfl) (fun _ => by kernel_rfl) ?_
            refine s_skip (by kernel_rfl) ?_
            refine s_skip (by kernel_rfl) ?_
            refine s_val (.bool false) (by kernel_rfl) (fun _ => by kernel_rfl) ?_
            refine s_val (.bool false) (by kernel_rfl) (fun _ => by kernel_rfl) ?_
            refine s_nil ?_
            refine fin_seq ?_
            refine ok_ret ?_
            refine fin_block_ret ?_
            refine fin_seq_ret ?_
            refine fin_ret (.bool false) Tryz.results26 (by kernel_rfl) ?_
            exact fun w hO => ⟨by rw [show saysB c v = false from by unfold saysB saysN; simp [hsb, hub, hmb, hn1, hn2, hn3, h1, h2, h3, h5, h6]; try (first | omega | grind)], hO.below⟩
          | false =>
            refine s_val (.bool true) (by kernel_rfl) (fun _ => by kernel_rfl) ?_
            refine s_val (.bool true) (by kernel_rfl) (fun _ => by kernel_rfl) ?_
            refine s_val (.bool ub) (by kernel_rfl) (fun _ => by kernel_rfl) ?_
            cases h7 : ub with
            | true =>
              refine s_val (.bool false) (by kernel_rfl) (fun _ => by kernel_rfl) ?_
              refine s_val (.bool false) (by kernel_rfl) (fun _ => by kernel_rfl) ?_
              refine s_val (.bool false) (by kernel_rfl) (fun _ => by kernel_rfl) ?_
              refine s_nil ?_
              refine fin_seq ?_
              refine ok_ret ?_
              refine fin_block_ret ?_
              refine fin_seq_ret ?_
              refine fin_ret (.bool false) Tryz.results26 (by kernel_rfl) ?_
              exact fun w hO => ⟨by rw [show saysB c v = false from by unfold saysB saysN; simp [hsb, hub, hmb, hn1, hn2, hn3, h1, h2, h3, h5, h6, h7]; try (first | omega | grind)], hO.below⟩
            | false =>
              refine s_val (.bool true) (by kernel_rfl) (fun _ => by kernel_rfl) ?_
              refine s_val (.bool true) (by kernel_rfl) (fun _ => by kernel_rfl) ?_
              refine s_val (.bool true) (by kernel_rfl) (fun _ => by kernel_rfl) ?_
              refine s_nil ?_
              refine fin_seq ?_
              refine ok_ret ?_
              refine fin_block_ret ?_
              refine fin_seq_ret ?_
              refine fin_ret (.bool true) Tryz.results26 (by kernel_rfl) ?_
              exact fun w hO => ⟨by rw [show saysB c v = true from by unfold saysB saysN; simp [hsb, hub, hmb, hn1, hn2, hn3, h1, h2, h3, h5, h6, h7]; try (first | omega | grind)], hO.below⟩
        · skip
          refine s_dec (p := (c.op : Int) = 3) false (by kernel_rfl) (fun _ => by kernel_rfl) (decide_eq_false (h5)) ?_
          refine s_val (.bool false) (by kernel_rfl) (fun _ => by kernel_rfl) ?_
          refine s_nil ?_
          refine fin_seq ?_
          refine ok_false (by kernel_rfl) ?_
          refine ok_seq ?_
          refine ok_region ?_
          by_cases h8 : (c.op : Int) = 4
          · skip
            refine s_dec (p := (c.op : Int) = 4) true (by kernel_rfl) (fun _ => by kernel_rfl) (decide_eq_true (h8)) ?_
            refine s_val (.bool true) (by kernel_rfl) (fun _ => by kernel_rfl) ?_
            refine s_nil ?_
            refine fin_seq ?_
            refine ok_true (by kernel_rfl) ?_
            refine ok_seq ?_
            refine ok_region ?_
            refine s_val (.bool sb) (by kernel_rfl) (fun _ => by kernel_rfl) ?_
            refine s_val (.bool sb) (by kernel_rfl) (fun _ => by kernel_rfl) ?_
            cases h9 : sb with
            | true =>
              refine s_skip (by kernel_rfl) ?_
              refine s_skip (by kernel_rfl) ?_
              refine s_val (.bool true) (by kernel_rfl) (fun _ => by kernel_rfl) ?_
              refine s_val (.bool true) (by kernel_rfl) (fun _ => by kernel_rfl) ?_
              refine s_nil ?_
              refine fin_seq ?_
              refine ok_ret ?_
              refine fin_block_ret ?_
              refine fin_seq_ret ?_
              refine fin_ret (.bool true) Tryz.results26 (by kernel_rfl) ?_
              exact fun w hO => ⟨by rw [show saysB c v = true from by unfold saysB saysN; simp [hsb, hub, hmb, hn1, hn2, hn3, h1, h2, h3, h5, h8, h9]; try (first | omega | grind)], hO.below⟩
            | false =>
              refine s_val (.bool ub) (by kernel_rfl) (fun _ => by kernel_rfl) ?_
              cases h10 : ub with
              | true =>
                refine s_val (.bool false) (by kernel_rfl) (fun _ => by kernel_rfl) ?_
                refine s_val (.bool false) (by kernel_rfl) (fun _ => by kernel_rfl) ?_
                refine s_val (.bool false) (by kernel_rfl) (fun _ => by kernel_rfl) ?_
                refine s_nil ?_
                refine fin_seq ?_
                refine ok_ret ?_
                refine fin_block_ret ?_
                refine fin_seq_ret ?_
                refine fin_ret (.bool false) Tryz.results26 (by kernel_rfl) ?_
                exact fun w hO => ⟨by rw [show saysB c v = false from by unfold saysB saysN; simp [hsb, hub, hmb, hn1, hn2, hn3, h1, h2, h3, h5, h8, h9, h10]; try (first | omega | grind)], hO.below⟩
              | false =>
                refine s_val (.bool true) (by kernel_rfl) (fun _ => by kernel_rfl) ?_
                refine s_val (.bool true) (by kernel_rfl) (fun _ => by kernel_rfl) ?_
                refine s_val (.bool true) (by kernel_rfl) (fun _ => by kernel_rfl) ?_
                refine s_nil ?_
                refine fin_seq ?_
                refine ok_ret ?_
                refine fin_block_ret ?_
                refine fin_seq_ret ?_
                refine fin_ret (.bool true) Tryz.results26 (by kernel_rfl) ?_
                exact fun w hO => ⟨by rw [show saysB c v = true from by unfold saysB saysN; simp [hsb, hub, hmb, hn1, hn2, hn3, h1, h2, h3, h5, h8, h9, h10]; try (first | omega | grind)], hO.below⟩
          · skip
            refine s_dec (p := (c.op : Int) = 4) false (by kernel_rfl) (fun _ => by kernel_rfl) (decide_eq_false (h8)) ?_
            refine s_val (.bool false) (by kernel_rfl) (fun _ => by kernel_rfl) ?_
            refine s_nil ?_
            refine fin_seq ?_
            refine ok_false (by kernel_rfl) ?_
            refine ok_seq ?_
            refine ok_region ?_
            by_cases h11 : (c.op : Int) = 5
            · skip
              refine s_dec (p := (c.op : Int) = 5) true (by kernel_rfl) (fun _ => by kernel_rfl) (decide_eq_true (h11)) ?_
              refine s_val (.bool true) (by kernel_rfl) (fun _ => by kernel_rfl) ?_
              refine s_nil ?_
              refine fin_seq ?_
              refine ok_true (by kernel_rfl) ?_
              refine ok_seq ?_
              refine ok_region ?_
              refine s_val (.bool ub) (by kernel_rfl) (fun _ => by kernel_rfl) ?_
              refine s_val (.bool ub) (by kernel_rfl) (fun _ => by kernel_rfl) ?_
              refine s_nil ?_
              refine fin_seq ?_
              refine ok_ret ?_
              refine fin_block_ret ?_
              refine fin_seq_ret ?_
              refine fin_ret (.bool ub) Tryz.results26 (by kernel_rfl) ?_
              exact fun w hO => ⟨by rw [show saysB c v = ub from by unfold saysB saysN; simp [hsb, hub, hmb, hn1, hn2, hn3, h1, h2, h3, h5, h8, h11]; try (first | omega | grind)], hO.below⟩
            · skip
              refine s_dec (p := (c.op : Int) = 5) false (by kernel_rfl) (fun _ => by kernel_rfl) (decide_eq_false (h11)) ?_
              refine s_val (.bool false) (by kernel_rfl) (fun _ => by kernel_rfl) ?_
              refine s_nil ?_
              refine fin_seq ?_
              refine ok_false (by kernel_rfl) ?_
              refine ok_seq ?_
              refine ok_region ?_
              by_cases h12 : (c.op : Int) = 6
              · skip
                refine s_dec (p := (c.op : Int) = 6) true (by kernel_rfl) (fun _ => by kernel_rfl) (decide_eq_true (h12)) ?_
                refine s_val (.bool true) (by kernel_rfl) (fun _ => by kernel_rfl) ?_
                refine s_nil ?_
                refine fin_seq ?_
                refine ok_true (by kernel_rfl) ?_
                refine ok_seq ?_
                refine ok_region ?_
                refine s_val (.bool sb) (by kernel_rfl) (fun _ => by kernel_rfl) ?_
                refine s_val (.bool sb) (by kernel_rfl) (fun _ => by kernel_rfl) ?_
                cases h13 : sb with
                | true =>
                  refine s_skip (by kernel_rfl) ?_
                  refine s_val (.bool true) (by kernel_rfl) (fun _ => by kernel_rfl) ?_
                  refine s_val (.bool true) (by kernel_rfl) (fun _ => by kernel_rfl) ?_
                  refine s_nil ?_
                  refine fin_seq ?_
                  refine ok_ret ?_
                  refine fin_block_ret ?_
                  refine fin_seq_ret ?_
                  refine fin_ret (.bool true) Tryz.results26 (by kernel_rfl) ?_
                  exact fun w hO => ⟨by rw [show saysB c v = true from by unfold saysB saysN; simp [hsb, hub, hmb, hn1, hn2, hn3, h1, h2, h3, h5, h8, h11, h12, h13]; try (first | omega | grind)], hO.below⟩
                | false =>
                  refine s_val (.bool ub) (by kernel_rfl) (fun _ => by kernel_rfl) ?_
                  refine s_val (.bool ub) (by kernel_rfl) (fun _ => by kernel_rfl) ?_
                  refine s_val (.bool ub) (by kernel_rfl) (fun _ => by kernel_rfl) ?_
                  refine s_nil ?_
                  refine fin_seq ?_
                  refine ok_ret ?_
                  refine fin_block_ret ?_
                  refine fin_seq_ret ?_
                  refine fin_ret (.bool ub) Tryz.results26 (by kernel_rfl) ?_
                  exact fun w hO => ⟨by rw [show saysB c v = ub from by unfold saysB saysN; simp [hsb, hub, hmb, hn1, hn2, hn3, h1, h2, h3, h5, h8, h11, h12, h13]; try (first | omega | grind)], hO.below⟩
              · skip
                refine s_dec (p := (c.op : Int) = 6) false (by kernel_rfl) (fun _ => by kernel_rfl) (decide_eq_false (h12)) ?_
                refine s_val (.bool false) (by kernel_rfl) (fun _ => by kernel_rfl) ?_
                refine s_nil ?_
                refine fin_seq ?_
                refine ok_false (by kernel_rfl) ?_
                refine ok_seq ?_
                refine ok_region ?_
                by_cases h14 : (c.op : Int) = 8
                · skip
                  refine s_dec (p := (c.op : Int) = 8) true (by kernel_rfl) (fun _ => by kernel_rfl) (decide_eq_true (h14)) ?_
                  refine s_val (.bool true) (by kernel_rfl) (fun _ => by kernel_rfl) ?_
                  refine s_nil ?_
                  refine fin_seq ?_
                  refine ok_true (by kernel_rfl) ?_
                  refine ok_seq ?_
                  refine ok_region ?_
                  refine s_load 1 ⟨b1, (coV c).cells, 26⟩ (off := 0) (coV c) (by kernel_rfl) rfl (by kernel_rfl) (by kernel_rfl) (by kernel_rfl) ?_
                  refine s_load 0 ⟨b2, (verV v).cells, 24⟩ (off := 0) (verV v) (by kernel_rfl) rfl (by kernel_rfl) (by kernel_rfl) (by kernel_rfl) ?_
                  refine s_val (.pointer (some ⟨b1, 1, none⟩)) (by kernel_rfl) (fun _ => by kernel_rfl) ?_
                  refine s_load 1 ⟨b1, (coV c).cells, 26⟩ (off := 1) (.int .i64 c.parts) (by kernel_rfl) rfl (by kernel_rfl) (by kernel_rfl) (by kernel_rfl) ?_
                  refine s_val (.int .i64 (min c.parts (2 : Int))) (by kernel_rfl) (run_min2 (k := .i64) (q := .i64) (i := c.parts) (j := 2) rfl (by kernel_rfl) (by kernel_rfl)) ?_
                  refine s_call (k := 29) (args := #[coV c, verV v, .int .i64 (min c.parts (2 : Int))]) (.bool mb) (by kernel_rfl) (fun _ => by kernel_rfl) (fun w _ => ret_b hmb (begins6_any c v (min c.parts (2 : Int)) w)) ?_
                  refine s_val (.bool mb) (by kernel_rfl) (fun _ => by kernel_rfl) ?_
                  cases h15 : mb with
                  | true =>
                    refine s_val (.bool sb) (by kernel_rfl) (fun _ => by kernel_rfl) ?_
                    refine s_val (.bool sb) (by kernel_rfl) (fun _ => by kernel_rfl) ?_
                    cases h16 : sb with
                    | true =>
                      refine s_skip (by kernel_rfl) ?_
                      refine s_val (.bool true) (by kernel_rfl) (fun _ => by kernel_rfl) ?_
                      refine s_val (.bool true) (by kernel_rfl) (fun _ => by kernel_rfl) ?_
                      refine s_val (.bool true) (by kernel_rfl) (fun _ => by kernel_rfl) ?_
                      refine s_nil ?_
                      refine fin_seq ?_
                      refine ok_ret ?_
                      refine fin_block_ret ?_
                      refine fin_seq_ret ?_
                      refine fin_ret (.bool true) Tryz.results26 (by kernel_rfl) ?_
                      exact fun w hO => ⟨by rw [show saysB c v = true from by unfold saysB saysN; simp [hsb, hub, hmb, hn1, hn2, hn3, h1, h2, h3, h5, h8, h11, h12, h14, h15, h16]; try (first | omega | grind)], hO.below⟩
                    | false =>
                      refine s_val (.bool ub) (by kernel_rfl) (fun _ => by kernel_rfl) ?_
                      refine s_val (.bool ub) (by kernel_rfl) (fun _ => by kernel_rfl) ?_
                      refine s_val (.bool ub) (by kernel_rfl) (fun _ => by kernel_rfl) ?_
                      refine s_val (.bool ub) (by kernel_rfl) (fun _ => by kernel_rfl) ?_
                      refine s_nil ?_
                      refine fin_seq ?_
                      refine ok_ret ?_
                      refine fin_block_ret ?_
                      refine fin_seq_ret ?_
                      refine fin_ret (.bool ub) Tryz.results26 (by kernel_rfl) ?_
                      exact fun w hO => ⟨by rw [show saysB c v = ub from by unfold saysB saysN; simp [hsb, hub, hmb, hn1, hn2, hn3, h1, h2, h3, h5, h8, h11, h12, h14, h15, h16]; try (first | omega | grind)], hO.below⟩
                  | false =>
                    refine s_skip (by kernel_rfl) ?_
                    refine s_skip (by kernel_rfl) ?_
                    refine s_skip (by kernel_rfl) ?_
                    refine s_skip (by kernel_rfl) ?_
                    refine s_val (.bool false) (by kernel_rfl) (fun _ => by kernel_rfl) ?_
                    refine s_val (.bool false) (by kernel_rfl) (fun _ => by kernel_rfl) ?_
                    refine s_nil ?_
                    refine fin_seq ?_
                    refine ok_ret ?_
                    refine fin_block_ret ?_
                    refine fin_seq_ret ?_
                    refine fin_ret (.bool false) Tryz.results26 (by kernel_rfl) ?_
                    exact fun w hO => ⟨by rw [show saysB c v = false from by unfold saysB saysN; simp [hsb, hub, hmb, hn1, hn2, hn3, h1, h2, h3, h5, h8, h11, h12, h14, h15]; try (first | omega | grind)], hO.below⟩
                · skip
                  refine s_dec (p := (c.op : Int) = 8) false (by kernel_rfl) (fun _ => by kernel_rfl) (decide_eq_false (h14)) ?_
                  refine s_val (.bool false) (by kernel_rfl) (fun _ => by kernel_rfl) ?_
                  refine s_nil ?_
                  refine fin_seq ?_
                  refine ok_false (by kernel_rfl) ?_
                  refine ok_skip ?_
                  refine fin_block ?_
                  refine fin_seq ?_
                  refine ok_seq ?_
                  refine ok_region ?_
                  refine s_val (.int .i64 3) (by kernel_rfl) (fun _ => by kernel_rfl) ?_
                  refine s_nil ?_
                  refine fin_seq ?_
                  refine ok_seq ?_
                  refine ok_seq ?_
                  refine ok_region ?_
                  refine s_val (.pointer (some ⟨b1, 2, none⟩)) (by kernel_rfl) (fun _ => by kernel_rfl) ?_
                  refine s_val (.pointer (some ⟨b1, 2, none⟩)) (by kernel_rfl) (fun _ => by kernel_rfl) ?_
                  refine s_load 1 ⟨b1, (coV c).cells, 26⟩ (off := 2) (.int .i64 c.v.maj) (by kernel_rfl) rfl (by kernel_rfl) (by kernel_rfl) (by kernel_rfl) ?_
                  by_cases h17 : (0 : Int) < c.v.maj
                  · skip
                    refine s_dec (p := (0 : Int) < c.v.maj) true (by kernel_rfl) (fun _ => by kernel_rfl) (decide_eq_true (h17)) ?_
                    refine s_val (.bool true) (by kernel_rfl) (fun _ => by kernel_rfl) ?_
                    refine s_skip (by kernel_rfl) ?_
                    refine s_skip (by kernel_rfl) ?_
                    refine s_skip (by kernel_rfl) ?_
                    refine s_val (.bool true) (by kernel_rfl) (fun _ => by kernel_rfl) ?_
                    refine s_nil ?_
                    refine fin_seq ?_
                    refine ok_true (by kernel_rfl) ?_
                    refine ok_region ?_
                    refine s_val (.int .i64 1) (by kernel_rfl) (fun _ => by kernel_rfl) ?_
                    refine s_nil ?_
                    refine fin_seq ?_
                    refine ok_seq ?_
                    refine ok_region ?_
                    refine s_load 1 ⟨b1, (coV c).cells, 26⟩ (off := 0) (coV c) (by kernel_rfl) rfl (by kernel_rfl) (by kernel_rfl) (by kernel_rfl) ?_
                    refine s_load 0 ⟨b2, (verV v).cells, 24⟩ (off := 0) (verV v) (by kernel_rfl) rfl (by kernel_rfl) (by kernel_rfl) (by kernel_rfl) ?_
                    refine s_val (.int .i64 1) (by kernel_rfl) (fun _ => by kernel_rfl) ?_
                    refine s_call (k := 29) (args := #[coV c, verV v, .int .i64 1]) (.bool n1) (by kernel_rfl) (fun _ => by kernel_rfl) (fun w _ => ret_b hn1 (begins6_any c v 1 w)) ?_
                    refine s_val (.bool n1) (by kernel_rfl) (fun _ => by kernel_rfl) ?_
                    cases h18 : n1 with
                    | true =>
                      refine s_val (.bool sb) (by kernel_rfl) (fun _ => by kernel_rfl) ?_
                      refine s_val (.bool sb) (by kernel_rfl) (fun _ => by kernel_rfl) ?_
                      cases h19 : sb with
                      | true =>
                        refine s_skip (by kernel_rfl) ?_
                        refine s_val (.bool true) (by kernel_rfl) (fun _ => by kernel_rfl) ?_
                        refine s_val (.bool true) (by kernel_rfl) (fun _ => by kernel_rfl) ?_
                        refine s_val (.bool true) (by kernel_rfl) (fun _ => by kernel_rfl) ?_
                        refine s_nil ?_
                        refine fin_seq ?_
                        refine ok_ret ?_
                        refine fin_ret (.bool true) Tryz.results26 (by kernel_rfl) ?_
                        exact fun w hO => ⟨by rw [show saysB c v = true from by unfold saysB saysN; simp [hsb, hub, hmb, hn1, hn2, hn3, h1, h2, h3, h5, h8, h11, h12, h14, h17, h18, h19]; try (first | omega | grind)], hO.below⟩
                      | false =>
                        refine s_val (.bool ub) (by kernel_rfl) (fun _ => by kernel_rfl) ?_
                        refine s_val (.bool ub) (by kernel_rfl) (fun _ => by kernel_rfl) ?_
                        refine s_val (.bool ub) (by kernel_rfl) (fun _ => by kernel_rfl) ?_
                        refine s_val (.bool ub) (by kernel_rfl) (fun _ => by kernel_rfl) ?_
                        refine s_nil ?_
                        refine fin_seq ?_
                        refine ok_ret ?_
                        refine fin_ret (.bool ub) Tryz.results26 (by kernel_rfl) ?_
                        exact fun w hO => ⟨by rw [show saysB c v = ub from by unfold saysB saysN; simp [hsb, hub, hmb, hn1, hn2, hn3, h1, h2, h3, h5, h8, h11, h12, h14, h17, h18, h19]; try (first | omega | grind)], hO.below⟩
                    | false =>
                      refine s_skip (by kernel_rfl) ?_
                      refine s_skip (by kernel_rfl) ?_
                      refine s_skip (by kernel_rfl) ?_
                      refine s_skip (by kernel_rfl) ?_
                      refine s_val (.bool false) (by kernel_rfl) (fun _ => by kernel_rfl) ?_
                      refine s_val (.bool false) (by kernel_rfl) (fun _ => by kernel_rfl) ?_
                      refine s_nil ?_
                      refine fin_seq ?_
                      refine ok_ret ?_
                      refine fin_ret (.bool false) Tryz.results26 (by kernel_rfl) ?_
                      exact fun w hO => ⟨by rw [show saysB c v = false from by unfold saysB saysN; simp [hsb, hub, hmb, hn1, hn2, hn3, h1, h2, h3, h5, h8, h11, h12, h14, h17, h18]; try (first | omega | grind)], hO.below⟩
                  · skip
                    refine s_dec (p := (0 : Int) < c.v.maj) false (by kernel_rfl) (fun _ => by kernel_rfl) (decide_eq_false (h17)) ?_
                    refine s_val (.bool false) (by kernel_rfl) (fun _ => by kernel_rfl) ?_
                    refine s_val (.pointer (some ⟨b1, 1, none⟩)) (by kernel_rfl) (fun _ => by kernel_rfl) ?_
                    refine s_load 1 ⟨b1, (coV c).cells, 26⟩ (off := 1) (.int .i64 c.parts) (by kernel_rfl) rfl (by kernel_rfl) (by kernel_rfl) (by kernel_rfl) ?_
                    by_cases h20 : (c.parts : Int) = 1
                    · skip
                      refine s_dec (p := (c.parts : Int) = 1) true (by kernel_rfl) (fun _ => by kernel_rfl) (decide_eq_true (h20)) ?_
                      refine s_val (.bool true) (by kernel_rfl) (fun _ => by kernel_rfl) ?_
                      refine s_nil ?_
                      refine fin_seq ?_
                      refine ok_true (by kernel_rfl) ?_
                      refine ok_region ?_
                      refine s_val (.int .i64 1) (by kernel_rfl) (fun _ => by kernel_rfl) ?_
                      refine s_nil ?_
                      refine fin_seq ?_
                      refine ok_seq ?_
                      refine ok_region ?_
                      refine s_load 1 ⟨b1, (coV c).cells, 26⟩ (off := 0) (coV c) (by kernel_rfl) rfl (by kernel_rfl) (by kernel_rfl) (by kernel_rfl) ?_
                      refine s_load 0 ⟨b2, (verV v).cells, 24⟩ (off := 0) (verV v) (by kernel_rfl) rfl (by kernel_rfl) (by kernel_rfl) (by kernel_rfl) ?_
                      refine s_val (.int .i64 1) (by kernel_rfl) (fun _ => by kernel_rfl) ?_
                      refine s_call (k := 29) (args := #[coV c, verV v, .int .i64 1]) (.bool n1) (by kernel_rfl) (fun _ => by kernel_rfl) (fun w _ => ret_b hn1 (begins6_any c v 1 w)) ?_
                      refine s_val (.bool n1) (by kernel_rfl) (fun _ => by kernel_rfl) ?_
                      cases h21 : n1 with
                      | true =>
                        refine s_val (.bool sb) (by kernel_rfl) (fun _ => by kernel_rfl) ?_
                        refine s_val (.bool sb) (by kernel_rfl) (fun _ => by kernel_rfl) ?_
                        cases h22 : sb with
                        | true =>
                          refine s_skip (by kernel_rfl) ?_
                          refine s_val (.bool true) (by kernel_rfl) (fun _ => by kernel_rfl) ?_
                          refine s_val (.bool true) (by kernel_rfl) (fun _ => by kernel_rfl) ?_
                          refine s_val (.bool true) (by kernel_rfl) (fun _ => by kernel_rfl) ?_
                          refine s_nil ?_
                          refine fin_seq ?_
                          refine ok_ret ?_
                          refine fin_ret (.bool true) Tryz.results26 (by kernel_rfl) ?_
                          exact fun w hO => ⟨by rw [show saysB c v = true from by unfold saysB saysN; simp [hsb, hub, hmb, hn1, hn2, hn3, h1, h2, h3, h5, h8, h11, h12, h14, h17, h20, h21, h22]; try (first | omega | grind)], hO.below⟩
                        | false =>
                          refine s_val (.bool ub) (by kernel_rfl) (fun _ => by kernel_rfl) ?_
                          refine s_val (.bool ub) (by kernel_rfl) (fun _ => by kernel_rfl) ?_
                          refine s_val (.bool ub) (by kernel_rfl) (fun _ => by kernel_rfl) ?_
                          refine s_val (.bool ub) (by kernel_rfl) (fun _ => by kernel_rfl) ?_
                          refine s_nil ?_
                          refine fin_seq ?_
                          refine ok_ret ?_
                          refine fin_ret (.bool ub) Tryz.results26 (by kernel_rfl) ?_
                          exact fun w hO => ⟨by rw [show saysB c v = ub from by unfold saysB saysN; simp [hsb, hub, hmb, hn1, hn2, hn3, h1, h2, h3, h5, h8, h11, h12, h14, h17, h20, h21, h22]; try (first | omega | grind)], hO.below⟩
                      | false =>
                        refine s_skip (by kernel_rfl) ?_
                        refine s_skip (by kernel_rfl) ?_
                        refine s_skip (by kernel_rfl) ?_
                        refine s_skip (by kernel_rfl) ?_
                        refine s_val (.bool false) (by kernel_rfl) (fun _ => by kernel_rfl) ?_
                        refine s_val (.bool false) (by kernel_rfl) (fun _ => by kernel_rfl) ?_
                        refine s_nil ?_
                        refine fin_seq ?_
                        refine ok_ret ?_
                        refine fin_ret (.bool false) Tryz.results26 (by kernel_rfl) ?_
                        exact fun w hO => ⟨by rw [show saysB c v = false from by unfold saysB saysN; simp [hsb, hub, hmb, hn1, hn2, hn3, h1, h2, h3, h5, h8, h11, h12, h14, h17, h20, h21]; try (first | omega | grind)], hO.below⟩
                    · skip
                      refine s_dec (p := (c.parts : Int) = 1) false (by kernel_rfl) (fun _ => by kernel_rfl) (decide_eq_false (h20)) ?_
                      refine s_val (.bool false) (by kernel_rfl) (fun _ => by kernel_rfl) ?_
                      refine s_nil ?_
                      refine fin_seq ?_
                      refine ok_false (by kernel_rfl) ?_
                      refine ok_seq ?_
                      refine ok_region ?_
                      refine s_val (.pointer (some ⟨b1, 2, none⟩)) (by kernel_rfl) (fun _ => by kernel_rfl) ?_
                      refine s_val (.pointer (some ⟨b1, 3, none⟩)) (by kernel_rfl) (fun _ => by kernel_rfl) ?_
                      refine s_load 1 ⟨b1, (coV c).cells, 26⟩ (off := 3) (.int .i64 c.v.min) (by kernel_rfl) rfl (by kernel_rfl) (by kernel_rfl) (by kernel_rfl) ?_
                      by_cases h23 : (0 : Int) < c.v.min
                      · skip
                        refine s_dec (p := (0 : Int) < c.v.min) true (by kernel_rfl) (fun _ => by kernel_rfl) (decide_eq_true (h23)) ?_
                        refine s_val (.bool true) (by kernel_rfl) (fun _ => by kernel_rfl) ?_
                        refine s_skip (by kernel_rfl) ?_
                        refine s_skip (by kernel_rfl) ?_
                        refine s_skip (by kernel_rfl) ?_
                        refine s_val (.bool true) (by kernel_rfl) (fun _ => by kernel_rfl) ?_
                        refine s_nil ?_
                        refine fin_seq ?_
                        refine ok_true (by kernel_rfl) ?_
                        refine ok_region ?_
                        refine s_val (.int .i64 2) (by kernel_rfl) (fun _ => by kernel_rfl) ?_
                        refine s_nil ?_
                        refine fin_seq ?_
                        refine ok_seq ?_
                        refine ok_region ?_
                        refine s_load 1 ⟨b1, (coV c).cells, 26⟩ (off := 0) (coV c) (by kernel_rfl) rfl (by kernel_rfl) (by kernel_rfl) (by kernel_rfl) ?_
                        refine s_load 0 ⟨b2, (verV v).cells, 24⟩ (off := 0) (verV v) (by kernel_rfl) rfl (by kernel_rfl) (by kernel_rfl) (by kernel_rfl) ?_
                        refine s_val (.int .i64 2) (by kernel_rfl) (fun _ => by kernel_rfl) ?_
                        refine s_call (k := 29) (args := #[coV c, verV v, .int .i64 2]) (.bool n2) (by kernel_rfl) (fun _ => by kernel_rfl) (fun w _ => ret_b hn2 (begins6_any c v 2 w)) ?_
                        refine s_val (.bool n2) (by kernel_rfl) (fun _ => by kernel_rfl) ?_
                        cases h24 : n2 with
                        | true =>
                          refine s_val (.bool sb) (by kernel_rfl) (fun _ => by kernel_rfl) ?_
                          refine s_val (.bool sb) (by kernel_rfl) (fun _ => by kernel_rfl) ?_
                          cases h25 : sb with
                          | true =>
                            refine s_skip (by kernel_rfl) ?_
                            refine s_val (.bool true) (by kernel_rfl) (fun _ => by kernel_rfl) ?_
                            refine s_val (.bool true) (by kernel_rfl) (fun _ => by kernel_rfl) ?_
                            refine s_val (.bool true) (by kernel_rfl) (fun _ => by kernel_rfl) ?_
                            refine s_nil ?_
                            refine fin_seq ?_
                            refine ok_ret ?_
                            refine fin_ret (.bool true) Tryz.results26 (by kernel_rfl) ?_
                            exact fun w hO => ⟨by rw [show saysB c v = true from by unfold saysB saysN; simp [hsb, hub, hmb, hn1, hn2, hn3, h1, h2, h3, h5, h8, h11, h12, h14, h17, h20, h23, h24, h25]; try (first | omega | grind)], hO.below⟩
                          | false =>
                            refine s_val (.bool ub) (by kernel_rfl) (fun _ => by kernel_rfl) ?_
                            refine s_val (.bool ub) (by kernel_rfl) (fun _ => by kernel_rfl) ?_
                            refine s_val (.bool ub) (by kernel_rfl) (fun _ => by kernel_rfl) ?_
                            refine s_val (.bool ub) (by kernel_rfl) (fun _ => by kernel_rfl) ?_
                            refine s_nil ?_
                            refine fin_seq ?_
                            refine ok_ret ?_
                            refine fin_ret (.bool ub) Tryz.results26 (by kernel_rfl) ?_
                            exact fun w hO => ⟨by rw [show saysB c v = ub from by unfold saysB saysN; simp [hsb, hub, hmb, hn1, hn2, hn3, h1, h2, h3, h5, h8, h11, h12, h14, h17, h20, h23, h24, h25]; try (first | omega | grind)], hO.below⟩
                        | false =>
                          refine s_skip (by kernel_rfl) ?_
                          refine s_skip (by kernel_rfl) ?_
                          refine s_skip (by kernel_rfl) ?_
                          refine s_skip (by kernel_rfl) ?_
                          refine s_val (.bool false) (by kernel_rfl) (fun _ => by kernel_rfl) ?_
                          refine s_val (.bool false) (by kernel_rfl) (fun _ => by kernel_rfl) ?_
                          refine s_nil ?_
                          refine fin_seq ?_
                          refine ok_ret ?_
                          refine fin_ret (.bool false) Tryz.results26 (by kernel_rfl) ?_
                          exact fun w hO => ⟨by rw [show saysB c v = false from by unfold saysB saysN; simp [hsb, hub, hmb, hn1, hn2, hn3, h1, h2, h3, h5, h8, h11, h12, h14, h17, h20, h23, h24]; try (first | omega | grind)], hO.below⟩
                      · skip
                        refine s_dec (p := (0 : Int) < c.v.min) false (by kernel_rfl) (fun _ => by kernel_rfl) (decide_eq_false (h23)) ?_
                        refine s_val (.bool false) (by kernel_rfl) (fun _ => by kernel_rfl) ?_
                        refine s_val (.pointer (some ⟨b1, 1, none⟩)) (by kernel_rfl) (fun _ => by kernel_rfl) ?_
                        refine s_load 1 ⟨b1, (coV c).cells, 26⟩ (off := 1) (.int .i64 c.parts) (by kernel_rfl) rfl (by kernel_rfl) (by kernel_rfl) (by kernel_rfl) ?_
                        by_cases h26 : (c.parts : Int) = 2
                        · skip
                          refine s_dec (p := (c.parts : Int) = 2) true (by kernel_rfl) (fun _ => by kernel_rfl) (decide_eq_true (h26)) ?_
                          refine s_val (.bool true) (by kernel_rfl) (fun _ => by kernel_rfl) ?_
                          refine s_nil ?_
                          refine fin_seq ?_
                          refine ok_true (by kernel_rfl) ?_
                          refine ok_region ?_
                          refine s_val (.int .i64 2) (by kernel_rfl) (fun _ => by kernel_rfl) ?_
                          refine s_nil ?_
                          refine fin_seq ?_
                          refine ok_seq ?_
                          refine ok_region ?_
                          refine s_load 1 ⟨b1, (coV c).cells, 26⟩ (off := 0) (coV c) (by kernel_rfl) rfl (by kernel_rfl) (by kernel_rfl) (by kernel_rfl) ?_
                          refine s_load 0 ⟨b2, (verV v).cells, 24⟩ (off := 0) (verV v) (by kernel_rfl) rfl (by kernel_rfl) (by kernel_rfl) (by kernel_rfl) ?_
                          refine s_val (.int .i64 2) (by kernel_rfl) (fun _ => by kernel_rfl) ?_
                          refine s_call (k := 29) (args := #[coV c, verV v, .int .i64 2]) (.bool n2) (by kernel_rfl) (fun _ => by kernel_rfl) (fun w _ => ret_b hn2 (begins6_any c v 2 w)) ?_
                          refine s_val (.bool n2) (by kernel_rfl) (fun _ => by kernel_rfl) ?_
                          cases h27 : n2 with
                          | true =>
                            refine s_val (.bool sb) (by kernel_rfl) (fun _ => by kernel_rfl) ?_
                            refine s_val (.bool sb) (by kernel_rfl) (fun _ => by kernel_rfl) ?_
                            cases h28 : sb with
                            | true =>
                              refine s_skip (by kernel_rfl) ?_
                              refine s_val (.bool true) (by kernel_rfl) (fun _ => by kernel_rfl) ?_
                              refine s_val (.bool true) (by kernel_rfl) (fun _ => by kernel_rfl) ?_
                              refine s_val (.bool true) (by kernel_rfl) (fun _ => by kernel_rfl) ?_
                              refine s_nil ?_
                              refine fin_seq ?_
                              refine ok_ret ?_
                              refine fin_ret (.bool true) Tryz.results26 (by kernel_rfl) ?_
                              exact fun w hO => ⟨by rw [show saysB c v = true from by unfold saysB saysN; simp [hsb, hub, hmb, hn1, hn2, hn3, h1, h2, h3, h5, h8, h11, h12, h14, h17, h20, h23, h26, h27, h28]; try (first | omega | grind)], hO.below⟩
                            | false =>
                              refine s_val (.bool ub) (by kernel_rfl) (fun _ => by kernel_rfl) ?_
                              refine s_val (.bool ub) (by kernel_rfl) (fun _ => by kernel_rfl) ?_
                              refine s_val (.bool ub) (by kernel_rfl) (fun _ => by kernel_rfl) ?_
                              refine s_val (.bool ub) (by kernel_rfl) (fun _ => by kernel_rfl) ?_
                              refine s_nil ?_
                              refine fin_seq ?_
                              refine ok_ret ?_
                              refine fin_ret (.bool ub) Tryz.results26 (by kernel_rfl) ?_
                              exact fun w hO => ⟨by rw [show saysB c v = ub from by unfold saysB saysN; simp [hsb, hub, hmb, hn1, hn2, hn3, h1, h2, h3, h5, h8, h11, h12, h14, h17, h20, h23, h26, h27, h28]; try (first | omega | grind)], hO.below⟩
                          | false =>
                            refine s_skip (by kernel_rfl) ?_
                            refine s_skip (by kernel_rfl) ?_
                            refine s_skip (by kernel_rfl) ?_
                            refine s_skip (by kernel_rfl) ?_
                            refine s_val (.bool false) (by kernel_rfl) (fun _ => by kernel_rfl) ?_
                            refine s_val (.bool false) (by kernel_rfl) (fun _ => by kernel_rfl) ?_
                            refine s_nil ?_
                            refine fin_seq ?_
                            refine ok_ret ?_
                            refine fin_ret (.bool false) Tryz.results26 (by kernel_rfl) ?_
                            exact fun w hO => ⟨by rw [show saysB c v = false from by unfold saysB saysN; simp [hsb, hub, hmb, hn1, hn2, hn3, h1, h2, h3, h5, h8, h11, h12, h14, h17, h20, h23, h26, h27]; try (first | omega | grind)], hO.below⟩
                        · skip
                          refine s_dec (p := (c.parts : Int) = 2) false (by kernel_rfl) (fun _ => by kernel_rfl) (decide_eq_false (h26)) ?_
                          refine s_val (.bool false) (by kernel_rfl) (fun _ => by kernel_rfl) ?_
                          refine s_nil ?_
                          refine fin_seq ?_
                          refine ok_false (by kernel_rfl) ?_
                          refine ok_skip ?_
                          refine fin_seq ?_
                          refine ok_seq ?_
                          refine ok_region ?_
                          refine s_load 1 ⟨b1, (coV c).cells, 26⟩ (off := 0) (coV c) (by kernel_rfl) rfl (by kernel_rfl) (by kernel_rfl) (by kernel_rfl) ?_
                          refine s_load 0 ⟨b2, (verV v).cells, 24⟩ (off := 0) (verV v) (by kernel_rfl) rfl (by kernel_rfl) (by kernel_rfl) (by kernel_rfl) ?_
                          refine s_val (.int .i64 3) (by kernel_rfl) (fun _ => by kernel_rfl) ?_
                          refine s_call (k := 29) (args := #[coV c, verV v, .int .i64 3]) (.bool n3) (by kernel_rfl) (fun _ => by kernel_rfl) (fun w _ => ret_b hn3 (begins6_any c v 3 w)) ?_
                          refine s_val (.bool n3) (by kernel_rfl) (fun _ => by kernel_rfl) ?_
                          cases h29 : n3 with
                          | true =>
                            refine s_val (.bool sb) (by kernel_rfl) (fun _ => by kernel_rfl) ?_
                            refine s_val (.bool sb) (by kernel_rfl) (fun _ => by kernel_rfl) ?_
                            cases h30 : sb with
                            | true =>
                              refine s_skip (by kernel_rfl) ?_
                              refine s_val (.bool true) (by kernel_rfl) (fun _ => by kernel_rfl) ?_
                              refine s_val (.bool true) (by kernel_rfl) (fun _ => by kernel_rfl) ?_
                              refine s_val (.bool true) (by kernel_rfl) (fun _ => by kernel_rfl) ?_
                              refine s_nil ?_
                              refine fin_seq ?_
                              refine ok_ret ?_
                              refine fin_ret (.bool true) Tryz.results26 (by kernel_rfl) ?_
                              exact fun w hO => ⟨by rw [show saysB c v = true from by unfold saysB saysN; simp [hsb, hub, hmb, hn1, hn2, hn3, h1, h2, h3, h5, h8, h11, h12, h14, h17, h20, h23, h26, h29, h30]; try (first | omega | grind)], hO.below⟩
                            | false =>
                              refine s_val (.bool ub) (by kernel_rfl) (fun _ => by kernel_rfl) ?_
                              refine s_val (.bool ub) (by kernel_rfl) (fun _ => by kernel_rfl) ?_
                              refine s_val (.bool ub) (by kernel_rfl) (fun _ => by kernel_rfl) ?_
                              refine s_val (.bool ub) (by kernel_rfl) (fun _ => by kernel_rfl) ?_
                              refine s_nil ?_
                              refine fin_seq ?_
                              refine ok_ret ?_
                              refine fin_ret (.bool ub) Tryz.results26 (by kernel_rfl) ?_
                              exact fun w hO => ⟨by rw [show saysB c v = ub from by unfold saysB saysN; simp [hsb, hub, hmb, hn1, hn2, hn3, h1, h2, h3, h5, h8, h11, h12, h14, h17, h20, h23, h26, h29, h30]; try (first | omega | grind)], hO.below⟩
                          | false =>
                            refine s_skip (by kernel_rfl) ?_
                            refine s_skip (by kernel_rfl) ?_
                            refine s_skip (by kernel_rfl) ?_
                            refine s_skip (by kernel_rfl) ?_
                            refine s_val (.bool false) (by kernel_rfl) (fun _ => by kernel_rfl) ?_
                            refine s_val (.bool false) (by kernel_rfl) (fun _ => by kernel_rfl) ?_
                            refine s_nil ?_
                            refine fin_seq ?_
                            refine ok_ret ?_
                            refine fin_ret (.bool false) Tryz.results26 (by kernel_rfl) ?_
                            exact fun w hO => ⟨by rw [show saysB c v = false from by unfold saysB saysN; simp [hsb, hub, hmb, hn1, hn2, hn3, h1, h2, h3, h5, h8, h11, h12, h14, h17, h20, h23, h26, h29]; try (first | omega | grind)], hO.below⟩
end Go.Proofs.YtjabcbagggicaaaGreatDoor
end

section
/-
  linchpinlaw0's Release; linchpinlaw6's awake: what they return; nothing that was there is changed.
-/
namespace Go.Proofs.YtjabcbagggicaaaGreatDoor
open Go.RowKit
set_option maxRecDepth 100000
set_option linter.unusedVariables false
set_option linter.unusedSimpArgs false
set_option maxHeartbeats 2000000

theorem oneRow_len (lo hi : Cu) : (oneRow lo hi).length ≤ 1 := by have := add_len [] lo hi; simpa [oneRow] using this
theorem region_rf (c : Co) : RF c.region 4 := by
  refine ⟨region_may c, ?_⟩
  unfold Co.region
  split
  · split
    · exact (RF.not ⟨oneRow_may _ _, oneRow_len _ _⟩).len
    · exact Nat.le_trans (oneRow_len _ _) (by decide)
  · exact Nat.zero_le _
theorem zone_rf (c : Co) : RF c.zone 4 := by
  refine ⟨zone_may, ?_⟩
  unfold Co.zone
  split
  · show 1 ≤ 4; decide
  · exact Nat.zero_le _
theorem genR_any (v : Value) (l : List Int) (i : Nat) (W : World) (hv : ReadsI W W.heap.size v l) (hl : l.length ≤ 9223372036854775807) (hi : i ≤ 100000) :
    Calls Tryz.prog 24 #[v, .int .i64 (i : Int)] W fun e w' => e = .returned (verV (relV (genV l i))) ∧ Below W.heap.size W w' := by
  refine calls_ok (n := 12) Tryz.func24 rfl (by kernel_rfl) (by kernel_rfl) ?_
  refine ok_seq ?_
  refine ok_region ?_
  refine s_alloc_at (.agg #[.int .i64 0, .int .i64 0, .int .i64 0, .string ⟨#[]⟩, .string ⟨#[]⟩]) (by kernel_rfl) rfl (by kernel_rfl) (fun b1 => ?_)
  refine s_nil ?_
  refine fin_seq ?_
  refine ok_seq ?_
  refine ok_region ?_
  refine s_val (v) (by kernel_rfl) (fun _ => by kernel_rfl) ?_
  refine s_val (.int .i64 ((i : Nat) : Int)) (by kernel_rfl) (fun _ => by kernel_rfl) ?_
  refine s_call (k := 27) (args := #[v, .int .i64 ((i : Nat) : Int)]) (verV (genV l i)) (by kernel_rfl) (fun _ => by kernel_rfl) (fun w hO => gen_any v l i w ((hv.below hO.below).more hO.below.size) hl (by omega)) ?_
  refine s_alloc_at (.agg #[.int .i64 0, .int .i64 0, .int .i64 0, .string ⟨#[]⟩, .string ⟨#[]⟩]) (by kernel_rfl) rfl (by kernel_rfl) (fun b2 => ?_)
  refine s_store_at 0 ⟨b2, #[.int .i64 0, .int .i64 0, .int .i64 0, .string ⟨#[]⟩, .string ⟨#[]⟩], 24⟩ (off := 0) (verV (genV l i)) (by kernel_rfl) rfl rfl (by kernel_rfl) (by kernel_rfl) (by kernel_rfl) (by kernel_rfl) (by kernel_rfl) ?_
  refine s_nil ?_
  refine fin_seq ?_
  refine ok_seq ?_
  refine ok_region ?_
  refine s_val (.pointer (some ⟨b2, 3, none⟩)) (by kernel_rfl) (fun _ => by kernel_rfl) ?_
  refine s_store_at 0 ⟨b2, (verV (genV l i)).cells, 24⟩ (off := 3) (.string ⟨#[]⟩) (by kernel_rfl) rfl rfl (by kernel_rfl) (by kernel_rfl) (by kernel_rfl) (by kernel_rfl) (by kernel_rfl) ?_
  refine s_nil ?_
  refine fin_seq ?_
  refine ok_seq ?_
  refine ok_region ?_
  refine s_val (.pointer (some ⟨b2, 4, none⟩)) (by kernel_rfl) (fun _ => by kernel_rfl) ?_
  refine s_store_at 0 ⟨b2, #[.int .i64 ((genV l i).maj), .int .i64 ((genV l i).min), .int .i64 ((genV l i).pat), .string ⟨#[]⟩, .string (mkS (genV l i).build)], 24⟩ (off := 4) (.string ⟨#[]⟩) (by kernel_rfl) rfl rfl (by kernel_rfl) (by kernel_rfl) (by kernel_rfl) (by kernel_rfl) (by kernel_rfl) ?_
  refine s_nil ?_
  refine fin_seq ?_
  refine ok_seq ?_
  refine ok_region ?_
  refine s_load 0 ⟨b2, #[.int .i64 ((genV l i).maj), .int .i64 ((genV l i).min), .int .i64 ((genV l i).pat), .string ⟨#[]⟩, .string ⟨#[]⟩], 24⟩ (off := 0) (.agg #[.int .i64 ((genV l i).maj), .int .i64 ((genV l i).min), .int .i64 ((genV l i).pat), .string ⟨#[]⟩, .string ⟨#[]⟩]) (by kernel_rfl) rfl (by kernel_rfl) (by kernel_rfl) (by kernel_rfl) ?_
  refine s_store_at 1 ⟨b1, #[.int .i64 0, .int .i64 0, .int .i64 0, .string ⟨#[]⟩, .string ⟨#[]⟩], 24⟩ (off := 0) (.agg #[.int .i64 ((genV l i).maj), .int .i64 ((genV l i).min), .int .i64 ((genV l i).pat), .string ⟨#[]⟩, .string ⟨#[]⟩]) (by kernel_rfl) rfl rfl (by kernel_rfl) (by kernel_rfl) (by kernel_rfl) (by kernel_rfl) (by kernel_rfl) ?_
  refine s_nil ?_
  refine fin_seq ?_
  refine ok_ret ?_
  refine fin_cell 1 ⟨b1, #[.int .i64 ((genV l i).maj), .int .i64 ((genV l i).min), .int .i64 ((genV l i).pat), .string ⟨#[]⟩, .string ⟨#[]⟩], 24⟩ (off := 0) (.agg #[.int .i64 ((genV l i).maj), .int .i64 ((genV l i).min), .int .i64 ((genV l i).pat), .string ⟨#[]⟩, .string ⟨#[]⟩]) Tryz.results24 (by kernel_rfl) (by kernel_rfl) (by kernel_rfl) ?_
  exact fun w hO => ⟨rfl, hO.below⟩
def aCo : Co := ⟨7, 2, ⟨1, 2, 0, [], []⟩⟩
theorem aCo_may : aCo.may = true := by decide +kernel
theorem aCo_text : aCo.text = [94, 49, 46, 50] := by decide +kernel
theorem aP1 : pcV [94, 49, 46, 50] = aCo ∧ pcE [94, 49, 46, 50] = 0 := pc_some ((parseC_iff _ _).2 ⟨aCo_may, .inl aCo_text⟩)
theorem aP2 : pcV [49, 46, 50] = aCo ∧ pcE [49, 46, 50] = 0 := pc_some ((parseC_iff _ _).2 ⟨aCo_may, .inr aCo_text⟩)
theorem aP3 : pcE [94, 49, 46, 50, 46, 51, 46, 52] = 6 := (pc_none (by decide +kernel)).2
theorem aPr : aCo.print = [94, 49, 46, 50] := by rw [co_print aCo_may, aCo_text]
theorem aRg : aCo.region = [⟨⟨0, ⟨1, 2, 0, [], []⟩, false⟩, ⟨0, ⟨2, 0, 0, [], []⟩, false⟩⟩] := by decide +kernel
theorem aCo_short : aCo.short := ⟨by decide, by decide⟩
theorem awake6_any (W : World) (ht : HasTab W) : Calls Tryz.prog 11 #[] W fun e w' => e = .returned (.bool true) ∧ Below W.heap.size W w' := by
  refine calls_ok (n := 65) Tryz.func11 rfl (by kernel_rfl) (by kernel_rfl) ?_
  refine ok_seq ?_
  refine ok_region ?_
  refine s_val (.bool false) (by kernel_rfl) (fun _ => by kernel_rfl) ?_
  refine s_nil ?_
  refine fin_seq ?_
  refine ok_seq ?_
  refine ok_region ?_
  refine s_call (k := 12) (args := #[.string ⟨#[94, 49, 46, 50]⟩]) (.tuple #[coV aCo, .int .i64 0]) (by kernel_rfl) (fun _ => by kernel_rfl) (fun w hO => ret_v (by rw [aP1.1, aP1.2]) (cParse_any [94, 49, 46, 50] w (by decide) (ht.on hO.below))) ?_
  refine s_val (.tuple #[coV aCo, .int .i64 0]) (by kernel_rfl) (fun _ => by kernel_rfl) ?_
  refine s_val (coV aCo) (by kernel_rfl) (fun _ => by kernel_rfl) ?_
  refine s_val (.int .i64 0) (by kernel_rfl) (fun _ => by kernel_rfl) ?_
  refine s_alloc_at (.agg #[.int .i64 0, .int .i64 0, .int .i64 0, .int .i64 0, .int .i64 0, .string ⟨#[]⟩, .string ⟨#[]⟩]) (by kernel_rfl) rfl (by kernel_rfl) (fun b1 => ?_)
  refine s_store_at 0 ⟨b1, #[.int .i64 0, .int .i64 0, .int .i64 0, .int .i64 0, .int .i64 0, .string ⟨#[]⟩, .string ⟨#[]⟩], 26⟩ (off := 0) (coV aCo) (by kernel_rfl) rfl rfl (by kernel_rfl) (by kernel_rfl) (by kernel_rfl) (by kernel_rfl) (by kernel_rfl) ?_
  refine s_val (.int .i64 0) (by kernel_rfl) (fun _ => by kernel_rfl) ?_
  refine s_nil ?_
  refine fin_seq ?_
  refine ok_seq ?_
  refine ok_region ?_
  refine s_call (k := 12) (args := #[.string ⟨#[49, 46, 50]⟩]) (.tuple #[coV aCo, .int .i64 0]) (by kernel_rfl) (fun _ => by kernel_rfl) (fun w hO => ret_v (by rw [aP2.1, aP2.2]) (cParse_any [49, 46, 50] w (by decide) (ht.on hO.below))) ?_
  refine s_val (.tuple #[coV aCo, .int .i64 0]) (by kernel_rfl) (fun _ => by kernel_rfl) ?_
  refine s_val (coV aCo) (by kernel_rfl) (fun _ => by kernel_rfl) ?_
  refine s_val (.int .i64 0) (by kernel_rfl) (fun _ => by kernel_rfl) ?_
  refine s_alloc_at (.agg #[.int .i64 0, .int .i64 0, .int .i64 0, .int .i64 0, .int .i64 0, .string ⟨#[]⟩, .string ⟨#[]⟩]) (by kernel_rfl) rfl (by kernel_rfl) (fun b2 => ?_)
  refine s_store_at 0 ⟨b2, #[.int .i64 0, .int .i64 0, .int .i64 0, .int .i64 0, .int .i64 0, .string ⟨#[]⟩, .string ⟨#[]⟩], 26⟩ (off := 0) (coV aCo) (by kernel_rfl) rfl rfl (by kernel_rfl) (by kernel_rfl) (by kernel_rfl) (by kernel_rfl) (by kernel_rfl) ?_
  refine s_val (.int .i64 0) (by kernel_rfl) (fun _ => by kernel_rfl) ?_
  refine s_nil ?_
  refine fin_seq ?_
  refine ok_seq ?_
  refine ok_region ?_
  refine s_call (k := 12) (args := #[.string ⟨#[94, 49, 46, 50, 46, 51, 46, 52]⟩]) (.tuple #[coV (pcV [94, 49, 46, 50, 46, 51, 46, 52]), .int .i64 6]) (by kernel_rfl) (fun _ => by kernel_rfl) (fun w hO => ret_v (by rw [aP3]) (cParse_any [94, 49, 46, 50, 46, 51, 46, 52] w (by decide) (ht.on hO.below))) ?_
  refine s_val (.tuple #[coV (pcV [94, 49, 46, 50, 46, 51, 46, 52]), .int .i64 6]) (by kernel_rfl) (fun _ => by kernel_rfl) ?_
  refine s_val (coV (pcV [94, 49, 46, 50, 46, 51, 46, 52])) (by kernel_rfl) (fun _ => by kernel_rfl) ?_
  refine s_val (.int .i64 6) (by kernel_rfl) (fun _ => by kernel_rfl) ?_
  refine s_alloc_at (.agg #[.int .i64 0, .int .i64 0, .int .i64 0, .int .i64 0, .int .i64 0, .string ⟨#[]⟩, .string ⟨#[]⟩]) (by kernel_rfl) rfl (by kernel_rfl) (fun b3 => ?_)
  refine s_store_at 0 ⟨b3, #[.int .i64 0, .int .i64 0, .int .i64 0, .int .i64 0, .int .i64 0, .string ⟨#[]⟩, .string ⟨#[]⟩], 26⟩ (off := 0) (coV (pcV [94, 49, 46, 50, 46, 51, 46, 52])) (by kernel_rfl) rfl rfl (by kernel_rfl) (by kernel_rfl) (by kernel_rfl) (by kernel_rfl) (by kernel_rfl) ?_
  refine s_val (.int .i64 6) (by kernel_rfl) (fun _ => by kernel_rfl) ?_
  refine s_nil ?_
  refine fin_seq ?_
  refine ok_seq ?_
  refine ok_region ?_
  refine s_load 2 ⟨b1, (coV aCo).cells, 26⟩ (off := 0) (coV aCo) (by kernel_rfl) rfl (by kernel_rfl) (by kernel_rfl) (by kernel_rfl) ?_
  refine s_callo (k := 19) (args := #[coV aCo]) (fun v' L' => ∃ ob', L' = ob' ++ ([⟨b3, (coV (pcV [94, 49, 46, 50, 46, 51, 46, 52])).cells, 26⟩, ⟨b2, (coV aCo).cells, 26⟩, ⟨b1, (coV aCo).cells, 26⟩]) ∧ SlS v' [⟨⟨0, ⟨1, 2, 0, [], []⟩, false⟩, ⟨0, ⟨2, 0, 0, [], []⟩, false⟩⟩] ob') (by kernel_rfl) (fun _ => by kernel_rfl) (fun w hO => (cRegion_any aCo w aCo_short).mono fun e w' ⟨v', ob', k1, k2, k3⟩ => ⟨v', _, k1, ⟨ob', rfl, by rw [aRg] at k2; exact k2⟩, Own.joinN hO k3⟩) (fun v1 L1 hv1 => ?_)
  obtain ⟨o1, rfl, hr1⟩ := hv1
  obtain ⟨V1, c1, rfl⟩ := hr1.form
  obtain ⟨g1, cur1, rfl, _, _, _, _, _⟩ := Sl.block hr1 (by decide)
  refine s_val (.slice (some ⟨g1, 0, none⟩) 1 c1) (by kernel_rfl) (fun _ => by kernel_rfl) ?_
  refine s_nil ?_
  refine fin_seq ?_
  refine ok_seq ?_
  refine ok_region ?_
  refine s_val (.int .i64 0) (by kernel_rfl) (fun _ => by kernel_rfl) ?_
  refine s_val (.bool true) (by kernel_rfl) (fun _ => by kernel_rfl) ?_
  refine s_val (.bool true) (by kernel_rfl) (fun _ => by kernel_rfl) ?_
  refine s_val (.int .i64 0) (by kernel_rfl) (fun _ => by kernel_rfl) ?_
  refine s_val (.bool true) (by kernel_rfl) (fun _ => by kernel_rfl) ?_
  refine s_val (.bool true) (by kernel_rfl) (fun _ => by kernel_rfl) ?_
  refine s_val (.bool true) (by kernel_rfl) (fun _ => by kernel_rfl) ?_
  refine s_loadm ⟨b1, (coV aCo).cells, 26⟩ (off := 0) (coV aCo) (by kernel_rfl) rfl (by simp) (by kernel_rfl) (by kernel_rfl) ?_
  refine s_loadm ⟨b2, (coV aCo).cells, 26⟩ (off := 0) (coV aCo) (by kernel_rfl) rfl (by simp) (by kernel_rfl) (by kernel_rfl) ?_
  refine s_val (.bool true) (by kernel_rfl) (op_eq_co (u := aCo) (v := aCo) rfl (by kernel_rfl) (by kernel_rfl) (decide_eq_true (rfl))) ?_
  refine s_val (.bool true) (by kernel_rfl) (fun _ => by kernel_rfl) ?_
  refine s_val (.bool true) (by kernel_rfl) (fun _ => by kernel_rfl) ?_
  refine s_loadm ⟨b1, (coV aCo).cells, 26⟩ (off := 0) (coV aCo) (by kernel_rfl) rfl (by simp) (by kernel_rfl) (by kernel_rfl) ?_
  refine s_call (k := 14) (args := #[coV aCo]) (.string (mkS [94, 49, 46, 50])) (by kernel_rfl) (fun _ => by kernel_rfl) (fun w hO => ret_v (by rw [aPr]) (cPrint_any aCo w aCo_short (ht.on hO.below))) ?_
  refine s_val (.bool true) (by kernel_rfl) (run_streql (a := ([94, 49, 46, 50])) (b := ([94, 49, 46, 50])) rfl (by kernel_rfl) (by kernel_rfl) (decide_eq_true (rfl))) ?_
  refine s_val (.bool true) (by kernel_rfl) (fun _ => by kernel_rfl) ?_
  refine s_val (.bool true) (by kernel_rfl) (fun _ => by kernel_rfl) ?_
  refine s_val (.int .i64 6) (by kernel_rfl) (fun _ => by kernel_rfl) ?_
  refine s_val (.bool true) (by kernel_rfl) (fun _ => by kernel_rfl) ?_
  refine s_val (.bool true) (by kernel_rfl) (fun _ => by kernel_rfl) ?_
  refine s_val (.bool true) (by kernel_rfl) (fun _ => by kernel_rfl) ?_
  refine s_val (.slice (some ⟨g1, 0, none⟩) 1 c1) (by kernel_rfl) (fun _ => by kernel_rfl) ?_
  refine s_val (.int .i64 (1 : Int)) (by kernel_rfl) (fun _ => by kernel_rfl) ?_
  refine s_val (.bool true) (by kernel_rfl) (fun _ => by kernel_rfl) ?_
  refine s_val (.bool true) (by kernel_rfl) (fun _ => by kernel_rfl) ?_
  refine s_val (.bool true) (by kernel_rfl) (fun _ => by kernel_rfl) ?_
  refine s_val (.slice (some ⟨g1, 0, none⟩) 1 c1) (by kernel_rfl) (fun _ => by kernel_rfl) ?_
  refine s_val (.pointer (some ⟨g1, 0 + 0 * 14, none⟩)) (by kernel_rfl) (run_ixA (b := g1) (off := 0) (c := c1) (n := 1) (k := .i64) (j := 0) (e := 50) (sz := 14) rfl (by kernel_rfl) rfl (by kernel_rfl) (by kernel_rfl) (by kernel_rfl) (by omega) (by omega) (by rfl)) ?_
  refine s_val (.pointer (some ⟨g1, 0 + 0 * 14 + 0, none⟩)) (by kernel_rfl) (fun _ => by kernel_rfl) ?_
  refine s_val (.pointer (some ⟨g1, 0 + 0 * 14 + 1, none⟩)) (by kernel_rfl) (fun _ => by kernel_rfl) ?_
  refine s_old (verV ⟨1, 2, 0, [], []⟩) (a := ⟨g1, 0 + 0 * 14 + 1, none⟩) (by kernel_rfl) rfl (by kernel_rfl) (fun w hO => Reads.load spanC_len (Sl.reads hr1 rfl hO (fun x hx => by simp [hx])) rfl 0 1 (by decide) (by omega) _ (by kernel_rfl)) ?_
  refine s_val (.agg #[.int .i64 1, .int .i64 2, .int .i64 0, .string ⟨#[]⟩, .string ⟨#[]⟩]) (by kernel_rfl) (fun _ => by kernel_rfl) ?_
  refine s_val (.bool true) (by kernel_rfl) (op_eq_ver (u := (⟨1, 2, 0, [], []⟩ : Ver)) (v := (⟨1, 2, 0, [], []⟩ : Ver)) rfl (by kernel_rfl) (by kernel_rfl) (decide_eq_true (rfl))) ?_
  refine s_val (.bool true) (by kernel_rfl) (fun _ => by kernel_rfl) ?_
  refine s_val (.bool true) (by kernel_rfl) (fun _ => by kernel_rfl) ?_
  refine s_val (.slice (some ⟨g1, 0, none⟩) 1 c1) (by kernel_rfl) (fun _ => by kernel_rfl) ?_
  refine s_val (.pointer (some ⟨g1, 0 + 0 * 14, none⟩)) (by kernel_rfl) (run_ixA (b := g1) (off := 0) (c := c1) (n := 1) (k := .i64) (j := 0) (e := 50) (sz := 14) rfl (by kernel_rfl) rfl (by kernel_rfl) (by kernel_rfl) (by kernel_rfl) (by omega) (by omega) (by rfl)) ?_
  refine s_val (.pointer (some ⟨g1, 0 + 0 * 14 + 7, none⟩)) (by kernel_rfl) (fun _ => by kernel_rfl) ?_
  refine s_val (.pointer (some ⟨g1, 0 + 0 * 14 + 8, none⟩)) (by kernel_rfl) (fun _ => by kernel_rfl) ?_
  refine s_old (verV ⟨2, 0, 0, [], []⟩) (a := ⟨g1, 0 + 0 * 14 + 8, none⟩) (by kernel_rfl) rfl (by kernel_rfl) (fun w hO => Reads.load spanC_len (Sl.reads hr1 rfl hO (fun x hx => by simp [hx])) rfl 0 8 (by decide) (by omega) _ (by kernel_rfl)) ?_
  refine s_val (.agg #[.int .i64 2, .int .i64 0, .int .i64 0, .string ⟨#[]⟩, .string ⟨#[]⟩]) (by kernel_rfl) (fun _ => by kernel_rfl) ?_
  refine s_val (.bool true) (by kernel_rfl) (op_eq_ver (u := (⟨2, 0, 0, [], []⟩ : Ver)) (v := (⟨2, 0, 0, [], []⟩ : Ver)) rfl (by kernel_rfl) (by kernel_rfl) (decide_eq_true (rfl))) ?_
  refine s_val (.bool true) (by kernel_rfl) (fun _ => by kernel_rfl) ?_
  refine s_val (.bool true) (by kernel_rfl) (fun _ => by kernel_rfl) ?_
  refine s_nil ?_
  refine fin_seq ?_
  refine ok_ret ?_
  refine fin_ret (.bool true) Tryz.results11 (by kernel_rfl) ?_
  exact fun w hO => ⟨rfl, hO.below⟩
end Go.Proofs.YtjabcbagggicaaaGreatDoor
end

section
/-
  What every statement of this seat's proof leans on at its end: from 'the call returns true and below the heap's old end nothing has changed' to the row's own words; the table that the row lists, read as a walk needs it. Conditions: none of its own.
-/
namespace Go.Proofs.YtjabcbagggicaaaGreatDoor
open Go.ChangeShapes Go.WideShapes Go.ChangeAt Go.RowKit

theorem own : ownKnob Tryz.prog.godebug = none := by kernel_rfl

theorem trodAll_stays {H : Type} {enc : TypeId × Value → H} {P : Program} (hl : laidOutB P = true) {W W' : World} (hb : Below W.heap.size W W') :
    ∀ (ts : List TypeId), (∀ t ∈ ts, P.readableRec t = true ∧ t < P.types.size) → ∀ (vs : List Value) (ds : List (DataW H)) (ps : List MemPlace), DataW.TrodAll enc P W 0 (fun _ => true) true ts vs ds ps → (∀ p ∈ ps, p.block < W.heap.size) →
      DataW.TrodAll enc P W' 0 (fun b => decide (b < W.heap.size)) true ts vs ds ps
  | [], _, vs, ds, ps, h, _ => by
    obtain ⟨rfl, rfl, rfl⟩ := trodAll_nil h
    exact trodAll_mk0
  | t :: ts, hr, vs, ds, ps, h, hlt => by
    obtain ⟨v, vs', d, ds', p, q, rfl, rfl, rfl, hd, hrest⟩ := trodAll_cons h
    exact ⟨p, q, Go.RowKit.Below.trod hl (hr t (by simp)).1 (hr t (by simp)).2 hd hb.old (fun x hx => hlt x (by simp [hx])), trodAll_stays hl hb ts (fun t' ht' => hr t' (by simp [ht'])) vs' ds' q hrest (fun x hx => hlt x (by simp [hx])), rfl⟩

/-- The end of a statement's row: the call has returned true, and below the heap's old end nothing has changed. -/
theorem law_end {H : Type} {enc : TypeId × Value → H} {P : Program} {f : Func} {s : ChangeSpec} {W W' : World} {args : Array Value} {ds gs : List (DataW H)} {before : List MemPlace} {T : TypeId}
    (hl : laidOutB P = true) (hr : ∀ t ∈ f.params.toList, P.readableRec t = true ∧ t < P.types.size) (hv : s.vars = []) (hT : f.resultTypes = #[T]) (hB : P.underlying T = some .bool)
    (hW : DataW.Whole enc P f.params.toList s.vars false W args.toList ds gs before) (hf : s.fn H (ds ++ gs) = { results := [.lit (.bool true)], args := ds }) (hb : Below W.heap.size W W') :
    s.post enc P f false true false false W args (.bool true) W' := by
  have hlt : ∀ p ∈ before, p.block < W.heap.size := fun p hp => hW.lt p hp
  have hW' := hW
  obtain ⟨p, q, hA, hV, rfl, _, _⟩ := hW
  rw [hv] at hV
  obtain ⟨rfl, rfl⟩ := trodVars_none hV
  have h2 := trodAll_stays hl hb _ hr _ _ _ hA (fun x hx => hlt x (by simp [hx]))
  refine ⟨ds, [], p ++ [], [], p, [], hW', ?_, ?_, ?_, World.keptBut_mono (fun x hx => ⟨hx, Or.inr (Or.inl (by simpa using hx))⟩) (hb.frame (· ∈ p ++ [])), fun h => by cases h⟩
  · rw [hf, hT]
    exact trodAll_cons_mk (shut_bool hB true) trodAll_mk0
  · rw [hf]; exact h2
  · rw [hf, hv]; rfl
theorem laidOut : laidOutB Tryz.prog = true := by kernel_rfl

theorem cell_lt {W : World} {a : Addr} {v : Value} (h : W.cell? a = some v) : a.block < W.heap.size := by
  rcases Nat.lt_or_ge a.block W.heap.size with h1 | h1
  · exact h1
  · unfold World.cell? at h
    rw [Array.getElem?_eq_none h1] at h
    simp at h
/-- The cells that a table of integers lays. -/
def litCells : DataW Unit → List Value
  | .lit (.int k n) => [Value.int k n]
  | .agg l => l.flatMap fun d => match d with | .lit (.int k n) => [Value.int k n] | _ => []
  | _ => []
def tabCells : DataW Unit → Array Value
  | .agg l => (l.flatMap litCells).toArray
  | _ => #[]
def layAt (h : Array Obj) (g : Nat) (d : DataW Unit) : Array Obj := h.modify g fun
  | .cells _ t frozen => .cells (tabCells d) t frozen
  | o => o

theorem powType : (Tryz.prog.globals[3]?).map (·.type) = some 168 := by kernel_rfl
theorem powNamed : Tryz.prog.globalNamed "internal/strconv.uint64pow10" = some 3 := by kernel_rfl
theorem powCells : Tryz.prog.cellsOf 168 = 20 := by kernel_rfl
theorem u64Cells : Tryz.prog.cellsOf 128 = 1 := by kernel_rfl
theorem hasTab_of {W : World} {l : List (String × DataW Unit)} (h : laidMetH Tryz.prog l W) (e : (l.filter fun x => x.1 == "internal/strconv.uint64pow10") = [("internal/strconv.uint64pow10", Lib.tabData .u64 Lib.pow10Tab)]) : HasTab W := by
  have h2 := h.filter (fun x => x.1 == "internal/strconv.uint64pow10")
  rw [e] at h2
  exact Lib.tabBelow_of_tabIs (Lib.tabIs_of_head (rest := []) powNamed powType Tryz.underlying168 Tryz.underlying128 u64Cells powCells h2)
end Go.Proofs.YtjabcbagggicaaaGreatDoor
end

section
/-
  A parameter that is a slice of ints: it reads as a list, out of the row's own conditions.
-/
namespace Go.Proofs.YtjabcbagggicaaaGreatDoor
open Go.ChangeShapes Go.WideShapes Go.ChangeAt Go.RowKit

set_option maxRecDepth 100000 in
theorem open_nums {H : Type} {enc : TypeId × Value → H} {W : World} {base : Nat} {v : Value} {d : DataW H} {ps : List MemPlace} (hval : Value.okWide Tryz.prog W .any base 36 v)
    (h : DataW.Trod enc Tryz.prog W 0 (fun _ => true) true 36 v d ps) : ∃ l : List Int, ReadsI W W.heap.size v l ∧ l.length ≤ maxLen := by
  obtain ⟨A, len, cap, rfl⟩ := okWide_slice Tryz.underlying36 hval
  obtain ⟨fuel, hf⟩ := h
  rcases open_ints Tryz.underlying36 Tryz.underlying3 (by kernel_rfl) hf with ⟨hcs, _⟩ | ⟨a, len', cap', zs, hcs, _, hl, hm, hz, _, hcell, _⟩
  · simp [Value.cells] at hcs
    obtain ⟨rfl, rfl, rfl⟩ := hcs
    exact ⟨[], ⟨none, 0, rfl, fun h => by cases h⟩, by simp⟩
  · simp [Value.cells] at hcs
    obtain ⟨rfl, rfl, rfl⟩ := hcs
    simp only [if_true] at hz
    have hlen : (zs.take len).length = len := by rw [List.length_take]; omega
    refine ⟨zs.take len, ⟨some a, cap, by rw [hlen], fun h0 => ⟨a, rfl, ?_, fun j hj => ?_⟩⟩, by rw [hlen]; omega⟩
    · have := cell_lt (hcell 0 (by omega))
      rwa [add_block] at this
    · have hj2 : j < zs.length := by omega
      rw [hcell j hj2, List.getElem_take]
      simp only [List.getD, List.getElem?_eq_getElem hj2, Option.getD_some]
end Go.Proofs.YtjabcbagggicaaaGreatDoor
end
