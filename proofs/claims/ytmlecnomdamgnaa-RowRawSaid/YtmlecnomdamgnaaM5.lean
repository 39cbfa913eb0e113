/-
  What the statements' proofs lean on, part 5: each part begins with a remark that says what it proves and on what conditions.
-/
import Derived.Below
import Derived.ChangeSame
import Derived.ProofKit
import Derived.OpenShut
import Derived.LaidSub
import Derived.Carry
import Derived.SliceStrings
import Derived.Lib.LaidTab
import Derived.Deep.DeepHandedRow
import Derived.ChangeArms
import Derived.Deep.Fields
import Derived.DataReads
import Derived.ChangeOld
import Derived.ChangeSlices
import Derived.Test.YtmlecnomdamgnaaM4

section
/-
  linchpinlaw0's Version and Cut at any place: the version, the cut that the list's numbers name.
-/
namespace Go.Proofs.Ytmlecnomdamgnaa
open Go.RowKit
set_option linter.unusedSimpArgs false
set_option maxRecDepth 100000
set_option linter.unusedVariables false
set_option maxHeartbeats 2000000

theorem from_in {W : World} {v : Value} {l : List Int} (hv : ReadsI W W.heap.size v l) (hl : l.length ≤ 9223372036854775807) (i : Nat) (n : Int) (hi : i ≤ 1000000) (hn : 0 < n) (hn2 : n ≤ 1000000) {k : Int} (hk : plc (atL l i) n = k) :
    ∀ w, Below W.heap.size W w → Calls Try.prog 36 #[v, .int .i64 i, .int .i64 n] w fun e w' => e = .returned (.int .i64 k) ∧ Below w.heap.size w w' := fun w hb => by
  have h := from_any v l i n w ((hv.below hb).more hb.size) hl hi hn hn2
  rw [hk] at h
  exact h.mono fun _ _ ⟨e1, e2⟩ => ⟨e1, e2 ▸ Below.refl _ _⟩
theorem plc_nat' (v : Int) (n : Nat) (hn : 0 < n) : ∃ k : Nat, plc v n = (k : Int) ∧ k < n := by
  have h := plc_in v n (by omega)
  exact ⟨(plc v n).toNat, (Int.toNat_of_nonneg h.1).symm, by omega⟩
theorem rd_num : ∀ (k : Nat), k < 8 → readAt Try.prog 3 #[.int .i64 0, .int .i64 1, .int .i64 2, .int .i64 3, .int .i64 0, .int .i64 1, .int .i64 10, .int .i64 9999] k = some (.int .i64 (numT k))
  | 0, _ => by kernel_rfl
  | 1, _ => by kernel_rfl
  | 2, _ => by kernel_rfl
  | 3, _ => by kernel_rfl
  | 4, _ => by kernel_rfl
  | 5, _ => by kernel_rfl
  | 6, _ => by kernel_rfl
  | 7, _ => by kernel_rfl
theorem rd_pre : ∀ (k : Nat), k < 14 → readAt Try.prog 9 #[.string ⟨#[]⟩, .string ⟨#[]⟩, .string ⟨#[]⟩, .string ⟨#[]⟩, .string ⟨#[48]⟩, .string ⟨#[49]⟩, .string ⟨#[50]⟩, .string ⟨#[49, 49]⟩, .string ⟨#[97]⟩, .string ⟨#[97, 46, 49]⟩, .string ⟨#[97, 46, 98]⟩, .string ⟨#[98]⟩, .string ⟨#[48, 46, 48]⟩, .string ⟨#[114, 99, 46, 49]⟩] k = some (.string (mkS (preT14 k)))
  | 0, _ => by kernel_rfl
  | 1, _ => by kernel_rfl
  | 2, _ => by kernel_rfl
  | 3, _ => by kernel_rfl
  | 4, _ => by kernel_rfl
  | 5, _ => by kernel_rfl
  | 6, _ => by kernel_rfl
  | 7, _ => by kernel_rfl
  | 8, _ => by kernel_rfl
  | 9, _ => by kernel_rfl
  | 10, _ => by kernel_rfl
  | 11, _ => by kernel_rfl
  | 12, _ => by kernel_rfl
  | 13, _ => by kernel_rfl
theorem rd_bld : ∀ (k : Nat), k < 6 → readAt Try.prog 9 #[.string ⟨#[]⟩, .string ⟨#[]⟩, .string ⟨#[]⟩, .string ⟨#[]⟩, .string ⟨#[48, 48, 55]⟩, .string ⟨#[120, 46, 49]⟩] k = some (.string (mkS (bldT k)))
  | 0, _ => by kernel_rfl
  | 1, _ => by kernel_rfl
  | 2, _ => by kernel_rfl
  | 3, _ => by kernel_rfl
  | 4, _ => by kernel_rfl
  | 5, _ => by kernel_rfl

theorem gen_any (v : Value) (l : List Int) (i : Nat) (W : World) (hv : ReadsI W W.heap.size v l) (hl : l.length ≤ 9223372036854775807) (hi : i ≤ 100000) :
    Calls Try.prog 15 #[v, .int .i64 (i : Int)] W fun e w' => e = .returned (verV (genV l i)) ∧ Below W.heap.size W w' := by
  obtain ⟨k0, e0, q0⟩ := plc_nat' (atL l i) 8 (by omega)
  have f0 := from_in hv hl i 8 (by omega) (by omega) (by omega) e0
  obtain ⟨k1, e1, q1⟩ := plc_nat' (atL l (i + 1)) 8 (by omega)
  have f1 := from_in hv hl (i + 1) 8 (by omega) (by omega) (by omega) e1
  obtain ⟨k2, e2, q2⟩ := plc_nat' (atL l (i + 2)) 8 (by omega)
  have f2 := from_in hv hl (i + 2) 8 (by omega) (by omega) (by omega) e2
  obtain ⟨k3, e3, q3⟩ := plc_nat' (atL l (i + 3)) 14 (by omega)
  have f3 := from_in hv hl (i + 3) 14 (by omega) (by omega) (by omega) e3
  obtain ⟨k4, e4, q4⟩ := plc_nat' (atL l (i + 4)) 6 (by omega)
  have f4 := from_in hv hl (i + 4) 6 (by omega) (by omega) (by omega) e4
  have hg : genV l i = ⟨numT k0, numT k1, numT k2, preT14 k3, bldT k4⟩ := by unfold genV; rw [show plc (atL l i) 8 = _ from e0, show plc (atL l (i + 1)) 8 = _ from e1, show plc (atL l (i + 2)) 8 = _ from e2, show plc (atL l (i + 3)) 14 = _ from e3, show plc (atL l (i + 4)) 6 = _ from e4]; rfl
  rw [hg]
  refine calls_ok (n := 41) Try.func15 rfl (by kernel_rfl) (by kernel_rfl) ?_
  refine ok_seq ?_
  refine ok_region ?_
  refine s_alloc_at (.agg #[.int .i64 0, .int .i64 0, .int .i64 0, .string ⟨#[]⟩, .string ⟨#[]⟩]) (by kernel_rfl) rfl (by kernel_rfl) (fun b1 => ?_)
  refine s_nil ?_
  refine fin_seq ?_
  refine ok_seq ?_
  refine ok_region ?_
  refine s_val (.agg #[.int .i64 0, .int .i64 1, .int .i64 2, .int .i64 3, .int .i64 0, .int .i64 1, .int .i64 10, .int .i64 9999]) (by kernel_rfl) (fun _ => by kernel_rfl) ?_
  refine s_alloc_at (.agg #[.int .i64 0, .int .i64 0, .int .i64 0, .int .i64 0, .int .i64 0, .int .i64 0, .int .i64 0, .int .i64 0]) (by kernel_rfl) rfl (by kernel_rfl) (fun b2 => ?_)
  refine s_store_at 0 ⟨b2, #[.int .i64 0, .int .i64 0, .int .i64 0, .int .i64 0, .int .i64 0, .int .i64 0, .int .i64 0, .int .i64 0], 56⟩ (off := 0) (.agg #[.int .i64 0, .int .i64 1, .int .i64 2, .int .i64 3, .int .i64 0, .int .i64 1, .int .i64 10, .int .i64 9999]) (by kernel_rfl) rfl rfl (by kernel_rfl) (by kernel_rfl) (by kernel_rfl) (by kernel_rfl) (by kernel_rfl) ?_
  refine s_nil ?_
  refine fin_seq ?_
  refine ok_seq ?_
  refine ok_region ?_
  refine s_val (.agg #[.string ⟨#[]⟩, .string ⟨#[]⟩, .string ⟨#[]⟩, .string ⟨#[]⟩, .string ⟨#[48]⟩, .string ⟨#[49]⟩, .string ⟨#[50]⟩, .string ⟨#[49, 49]⟩, .string ⟨#[97]⟩, .string ⟨#[97, 46, 49]⟩, .string ⟨#[97, 46, 98]⟩, .string ⟨#[98]⟩, .string ⟨#[48, 46, 48]⟩, .string ⟨#[114, 99, 46, 49]⟩]) (by kernel_rfl) (fun _ => by kernel_rfl) ?_
  refine s_alloc_at (.agg #[.string ⟨#[]⟩, .string ⟨#[]⟩, .string ⟨#[]⟩, .string ⟨#[]⟩, .string ⟨#[]⟩, .string ⟨#[]⟩, .string ⟨#[]⟩, .string ⟨#[]⟩, .string ⟨#[]⟩, .string ⟨#[]⟩, .string ⟨#[]⟩, .string ⟨#[]⟩, .string ⟨#[]⟩, .string ⟨#[]⟩]) (by kernel_rfl) rfl (by kernel_rfl) (fun b3 => ?_)
  refine s_store_at 0 ⟨b3, #[.string ⟨#[]⟩, .string ⟨#[]⟩, .string ⟨#[]⟩, .string ⟨#[]⟩, .string ⟨#[]⟩, .string ⟨#[]⟩, .string ⟨#[]⟩, .string ⟨#[]⟩, .string ⟨#[]⟩, .string ⟨#[]⟩, .string ⟨#[]⟩, .string ⟨#[]⟩, .string ⟨#[]⟩, .string ⟨#[]⟩], 57⟩ (off := 0) (.agg #[.string ⟨#[]⟩, .string ⟨#[]⟩, .string ⟨#[]⟩, .string ⟨#[]⟩, .string ⟨#[48]⟩, .string ⟨#[49]⟩, .string ⟨#[50]⟩, .string ⟨#[49, 49]⟩, .string ⟨#[97]⟩, .string ⟨#[97, 46, 49]⟩, .string ⟨#[97, 46, 98]⟩, .string ⟨#[98]⟩, .string ⟨#[48, 46, 48]⟩, .string ⟨#[114, 99, 46, 49]⟩]) (by kernel_rfl) rfl rfl (by kernel_rfl) (by kernel_rfl) (by kernel_rfl) (by kernel_rfl) (by kernel_rfl) ?_
  refine s_nil ?_
  refine fin_seq ?_
  refine ok_seq ?_
  refine ok_region ?_
  refine s_val (.agg #[.string ⟨#[]⟩, .string ⟨#[]⟩, .string ⟨#[]⟩, .string ⟨#[]⟩, .string ⟨#[48, 48, 55]⟩, .string ⟨#[120, 46, 49]⟩]) (by kernel_rfl) (fun _ => by kernel_rfl) ?_
  refine s_alloc_at (.agg #[.string ⟨#[]⟩, .string ⟨#[]⟩, .string ⟨#[]⟩, .string ⟨#[]⟩, .string ⟨#[]⟩, .string ⟨#[]⟩]) (by kernel_rfl) rfl (by kernel_rfl) (fun b4 => ?_)
  refine s_store_at 0 ⟨b4, #[.string ⟨#[]⟩, .string ⟨#[]⟩, .string ⟨#[]⟩, .string ⟨#[]⟩, .string ⟨#[]⟩, .string ⟨#[]⟩], 58⟩ (off := 0) (.agg #[.string ⟨#[]⟩, .string ⟨#[]⟩, .string ⟨#[]⟩, .string ⟨#[]⟩, .string ⟨#[48, 48, 55]⟩, .string ⟨#[120, 46, 49]⟩]) (by kernel_rfl) rfl rfl (by kernel_rfl) (by kernel_rfl) (by kernel_rfl) (by kernel_rfl) (by kernel_rfl) ?_
  refine s_nil ?_
  refine fin_seq ?_
  refine ok_seq ?_
  refine ok_drawt 30 (by kernel_rfl) (by kernel_rfl) (by kernel_rfl) ?_
  simp only [List.take_succ_cons, List.take_zero, List.drop_succ_cons, List.drop_zero]
  refine q_val (v) (by kernel_rfl) (fun _ => by kernel_rfl) ?_
  refine q_val (.int .i64 ((i : Nat) : Int)) (by kernel_rfl) (fun _ => by kernel_rfl) ?_
  refine q_call (k := 36) (args := #[v, .int .i64 ((i : Nat) : Int), .int .i64 8]) (.int .i64 (k0 : Int)) (by kernel_rfl) (fun _ => by kernel_rfl) (fun w hO => f0 w hO.below) ?_
  refine q_val (.pointer (some ⟨b2, k0, none⟩)) (by kernel_rfl) (run_ixarr (b := b2) (off := 0) (k := .i64) (j := (k0 : Int)) (n := 8) (e := 3) (sz := 1) rfl (by kernel_rfl) (by kernel_rfl) (by kernel_rfl) (by kernel_rfl) (by omega) (by omega) (by omega)) ?_
  refine q_load 2 ⟨b2, #[.int .i64 0, .int .i64 1, .int .i64 2, .int .i64 3, .int .i64 0, .int .i64 1, .int .i64 10, .int .i64 9999], 56⟩ (off := k0) (.int .i64 (numT k0)) (by kernel_rfl) rfl (by kernel_rfl) (by kernel_rfl) (rd_num k0 q0) ?_
  refine q_val (v) (by kernel_rfl) (fun _ => by kernel_rfl) ?_
  refine q_val (.int .i64 ((i : Nat) : Int)) (by kernel_rfl) (fun _ => by kernel_rfl) ?_
  refine q_sum (k := .i64) (((i + 1 : Nat) : Int)) (by kernel_rfl) (fun _ => by kernel_rfl) (IntWalk.i64_in _ (by omega)) ?_
  refine q_call (k := 36) (args := #[v, .int .i64 ((i + 1 : Nat) : Int), .int .i64 8]) (.int .i64 (k1 : Int)) (by kernel_rfl) (fun _ => by kernel_rfl) (fun w hO => f1 w hO.below) ?_
  refine q_val (.pointer (some ⟨b2, k1, none⟩)) (by kernel_rfl) (run_ixarr (b := b2) (off := 0) (k := .i64) (j := (k1 : Int)) (n := 8) (e := 3) (sz := 1) rfl (by kernel_rfl) (by kernel_rfl) (by kernel_rfl) (by kernel_rfl) (by omega) (by omega) (by omega)) ?_
  refine q_load 2 ⟨b2, #[.int .i64 0, .int .i64 1, .int .i64 2, .int .i64 3, .int .i64 0, .int .i64 1, .int .i64 10, .int .i64 9999], 56⟩ (off := k1) (.int .i64 (numT k1)) (by kernel_rfl) rfl (by kernel_rfl) (by kernel_rfl) (rd_num k1 q1) ?_
  refine q_val (v) (by kernel_rfl) (fun _ => by kernel_rfl) ?_
  refine q_val (.int .i64 ((i : Nat) : Int)) (by kernel_rfl) (fun _ => by kernel_rfl) ?_
  refine q_sum (k := .i64) (((i + 2 : Nat) : Int)) (by kernel_rfl) (fun _ => by kernel_rfl) (IntWalk.i64_in _ (by omega)) ?_
  refine q_call (k := 36) (args := #[v, .int .i64 ((i + 2 : Nat) : Int), .int .i64 8]) (.int .i64 (k2 : Int)) (by kernel_rfl) (fun _ => by kernel_rfl) (fun w hO => f2 w hO.below) ?_
  refine q_val (.pointer (some ⟨b2, k2, none⟩)) (by kernel_rfl) (run_ixarr (b := b2) (off := 0) (k := .i64) (j := (k2 : Int)) (n := 8) (e := 3) (sz := 1) rfl (by kernel_rfl) (by kernel_rfl) (by kernel_rfl) (by kernel_rfl) (by omega) (by omega) (by omega)) ?_
  refine q_load 2 ⟨b2, #[.int .i64 0, .int .i64 1, .int .i64 2, .int .i64 3, .int .i64 0, .int .i64 1, .int .i64 10, .int .i64 9999], 56⟩ (off := k2) (.int .i64 (numT k2)) (by kernel_rfl) rfl (by kernel_rfl) (by kernel_rfl) (rd_num k2 q2) ?_
  refine q_val (v) (by kernel_rfl) (fun _ => by kernel_rfl) ?_
  refine q_val (.int .i64 ((i : Nat) : Int)) (by kernel_rfl) (fun _ => by kernel_rfl) ?_
  refine q_sum (k := .i64) (((i + 3 : Nat) : Int)) (by kernel_rfl) (fun _ => by kernel_rfl) (IntWalk.i64_in _ (by omega)) ?_
  refine q_call (k := 36) (args := #[v, .int .i64 ((i + 3 : Nat) : Int), .int .i64 14]) (.int .i64 (k3 : Int)) (by kernel_rfl) (fun _ => by kernel_rfl) (fun w hO => f3 w hO.below) ?_
  refine q_val (.pointer (some ⟨b3, k3, none⟩)) (by kernel_rfl) (run_ixarr (b := b3) (off := 0) (k := .i64) (j := (k3 : Int)) (n := 14) (e := 9) (sz := 1) rfl (by kernel_rfl) (by kernel_rfl) (by kernel_rfl) (by kernel_rfl) (by omega) (by omega) (by omega)) ?_
  refine q_load 1 ⟨b3, #[.string ⟨#[]⟩, .string ⟨#[]⟩, .string ⟨#[]⟩, .string ⟨#[]⟩, .string ⟨#[48]⟩, .string ⟨#[49]⟩, .string ⟨#[50]⟩, .string ⟨#[49, 49]⟩, .string ⟨#[97]⟩, .string ⟨#[97, 46, 49]⟩, .string ⟨#[97, 46, 98]⟩, .string ⟨#[98]⟩, .string ⟨#[48, 46, 48]⟩, .string ⟨#[114, 99, 46, 49]⟩], 57⟩ (off := k3) (.string (mkS (preT14 k3))) (by kernel_rfl) rfl (by kernel_rfl) (by kernel_rfl) (rd_pre k3 q3) ?_
  refine q_val (v) (by kernel_rfl) (fun _ => by kernel_rfl) ?_
  refine q_val (.int .i64 ((i : Nat) : Int)) (by kernel_rfl) (fun _ => by kernel_rfl) ?_
  refine q_sum (k := .i64) (((i + 4 : Nat) : Int)) (by kernel_rfl) (fun _ => by kernel_rfl) (IntWalk.i64_in _ (by omega)) ?_
  refine q_call (k := 36) (args := #[v, .int .i64 ((i + 4 : Nat) : Int), .int .i64 6]) (.int .i64 (k4 : Int)) (by kernel_rfl) (fun _ => by kernel_rfl) (fun w hO => f4 w hO.below) ?_
  refine q_val (.pointer (some ⟨b4, k4, none⟩)) (by kernel_rfl) (run_ixarr (b := b4) (off := 0) (k := .i64) (j := (k4 : Int)) (n := 6) (e := 9) (sz := 1) rfl (by kernel_rfl) (by kernel_rfl) (by kernel_rfl) (by kernel_rfl) (by omega) (by omega) (by omega)) ?_
  refine q_load 0 ⟨b4, #[.string ⟨#[]⟩, .string ⟨#[]⟩, .string ⟨#[]⟩, .string ⟨#[]⟩, .string ⟨#[48, 48, 55]⟩, .string ⟨#[120, 46, 49]⟩], 58⟩ (off := k4) (.string (mkS (bldT k4))) (by kernel_rfl) rfl (by kernel_rfl) (by kernel_rfl) (rd_bld k4 q4) ?_
  refine q_val (.agg #[.int .i64 (numT k0), .int .i64 (numT k1), .int .i64 (numT k2), .string (mkS (preT14 k3)), .string (mkS (bldT k4))]) (by kernel_rfl) (fun _ => by kernel_rfl) ?_
  refine q_nil ?_
  refine s_store_at 3 ⟨b1, #[.int .i64 0, .int .i64 0, .int .i64 0, .string ⟨#[]⟩, .string ⟨#[]⟩], 24⟩ (off := 0) (.agg #[.int .i64 (numT k0), .int .i64 (numT k1), .int .i64 (numT k2), .string (mkS (preT14 k3)), .string (mkS (bldT k4))]) (by kernel_rfl) rfl rfl (by kernel_rfl) (by kernel_rfl) (by kernel_rfl) (by kernel_rfl) (by kernel_rfl) ?_
  refine s_nil ?_
  refine fin_seq ?_
  refine ok_ret ?_
  refine fin_cell 3 ⟨b1, #[.int .i64 (numT k0), .int .i64 (numT k1), .int .i64 (numT k2), .string (mkS (preT14 k3)), .string (mkS (bldT k4))], 24⟩ (off := 0) (.agg #[.int .i64 (numT k0), .int .i64 (numT k1), .int .i64 (numT k2), .string (mkS (preT14 k3)), .string (mkS (bldT k4))]) Try.results15 (by kernel_rfl) (by kernel_rfl) (by kernel_rfl) ?_
  exact fun w hO => ⟨rfl, hO.below⟩
theorem genC_any (v : Value) (l : List Int) (i : Nat) (W : World) (hv : ReadsI W W.heap.size v l) (hl : l.length ≤ 9223372036854775807) (hi : i ≤ 100000) :
    Calls Try.prog 37 #[v, .int .i64 (i : Int)] W fun e w' => e = .returned (cutV (genC l i)) ∧ Below W.heap.size W w' := by
  obtain ⟨k0, e0, q0⟩ := plc_nat' (atL l (i + 5)) 9 (by omega)
  have f0 := from_in hv hl (i + 5) 9 (by omega) (by omega) (by omega) e0
  obtain ⟨k1, e1, q1⟩ := plc_nat' (atL l (i + 5)) 2 (by omega)
  have f1 := from_in hv hl (i + 5) 2 (by omega) (by omega) (by omega) e1
  refine calls_ok (n := 28) Try.func37 rfl (by kernel_rfl) (by kernel_rfl) ?_
  refine ok_seq ?_
  refine ok_region ?_
  refine s_alloc_at (.agg #[.int .i64 0, .int .i64 0, .int .i64 0, .int .i64 0, .string ⟨#[]⟩, .string ⟨#[]⟩, .bool false]) (by kernel_rfl) rfl (by kernel_rfl) (fun b1 => ?_)
  refine s_nil ?_
  refine fin_seq ?_
  refine ok_seq ?_
  refine ok_seq ?_
  refine ok_region ?_
  refine s_val (v) (by kernel_rfl) (fun _ => by kernel_rfl) ?_
  refine s_val (.int .i64 ((i : Nat) : Int)) (by kernel_rfl) (fun _ => by kernel_rfl) ?_
  refine s_sum (k := .i64) (((i + 5 : Nat) : Int)) (by kernel_rfl) (fun _ => by kernel_rfl) (IntWalk.i64_in _ (by omega)) ?_
  refine s_call (k := 36) (args := #[v, .int .i64 ((i + 5 : Nat) : Int), .int .i64 9]) (.int .i64 (k0 : Int)) (by kernel_rfl) (fun _ => by kernel_rfl) (fun w hO => f0 w hO.below) ?_
  refine s_val (.int .i64 (k0 : Int)) (by kernel_rfl) (fun _ => by kernel_rfl) ?_
  refine s_nil ?_
  refine fin_seq ?_
  refine ok_seq ?_
  refine ok_region ?_
  refine s_val (.int .i64 (k0 : Int)) (by kernel_rfl) (fun _ => by kernel_rfl) ?_
  by_cases h1 : ((k0 : Int) : Int) < 2
  · skip
    refine s_dec (p := ((k0 : Int) : Int) < 2) true (by kernel_rfl) (fun _ => by kernel_rfl) (decide_eq_true (h1)) ?_
    refine s_nil ?_
    refine fin_seq ?_
    refine ok_true (by kernel_rfl) ?_
    refine ok_seq ?_
    refine ok_region ?_
    refine s_val (.int .i64 (k0 : Int)) (by kernel_rfl) (fun _ => by kernel_rfl) ?_
    refine s_sum (k := .i64) ((2 : Int) * (k0 : Int)) (by kernel_rfl) (fun _ => by kernel_rfl) (IntWalk.i64_in _ (by omega)) ?_
    refine s_sum (k := .i64) ((((2 : Int) * (k0 : Int)) : Int) - 1) (by kernel_rfl) (fun _ => by kernel_rfl) (IntWalk.i64_in _ (by omega)) ?_
    refine s_val (.agg #[.int .i64 ((((2 : Int) * (k0 : Int)) : Int) - 1), .int .i64 0, .int .i64 0, .int .i64 0, .string ⟨#[]⟩, .string ⟨#[]⟩, .bool false]) (by kernel_rfl) (fun _ => by kernel_rfl) ?_
    refine s_store_at 0 ⟨b1, #[.int .i64 0, .int .i64 0, .int .i64 0, .int .i64 0, .string ⟨#[]⟩, .string ⟨#[]⟩, .bool false], 35⟩ (off := 0) (.agg #[.int .i64 ((((2 : Int) * (k0 : Int)) : Int) - 1), .int .i64 0, .int .i64 0, .int .i64 0, .string ⟨#[]⟩, .string ⟨#[]⟩, .bool false]) (by kernel_rfl) rfl rfl (by kernel_rfl) (by kernel_rfl) (by kernel_rfl) (by kernel_rfl) (by kernel_rfl) ?_
    refine s_nil ?_
    refine fin_seq ?_
    refine ok_ret ?_
    refine fin_seq_ret ?_
    refine fin_cell 0 ⟨b1, #[.int .i64 ((((2 : Int) * (k0 : Int)) : Int) - 1), .int .i64 0, .int .i64 0, .int .i64 0, .string ⟨#[]⟩, .string ⟨#[]⟩, .bool false], 35⟩ (off := 0) (.agg #[.int .i64 ((((2 : Int) * (k0 : Int)) : Int) - 1), .int .i64 0, .int .i64 0, .int .i64 0, .string ⟨#[]⟩, .string ⟨#[]⟩, .bool false]) Try.results37 (by kernel_rfl) (by kernel_rfl) (by kernel_rfl) ?_
    exact fun w hO => ⟨by rw [show cutV (genC l i) = .agg #[.int .i64 ((((2 : Int) * (k0 : Int)) : Int) - 1), .int .i64 0, .int .i64 0, .int .i64 0, .string ⟨#[]⟩, .string ⟨#[]⟩, .bool false] from by unfold genC; rw [show plc (atL l (i + 5)) 9 = _ from e0, show plc (atL l (i + 5)) 2 = _ from e1]; simp [h1]; rfl], hO.below⟩
  · skip
    refine s_dec (p := ((k0 : Int) : Int) < 2) false (by kernel_rfl) (fun _ => by kernel_rfl) (decide_eq_false (h1)) ?_
    refine s_nil ?_
    refine fin_seq ?_
    refine ok_false (by kernel_rfl) ?_
    refine ok_skip ?_
    refine fin_seq ?_
    refine ok_seq ?_
    refine ok_region ?_
    refine s_val (v) (by kernel_rfl) (fun _ => by kernel_rfl) ?_
    refine s_val (.int .i64 ((i : Nat) : Int)) (by kernel_rfl) (fun _ => by kernel_rfl) ?_
    refine s_call (k := 15) (args := #[v, .int .i64 ((i : Nat) : Int)]) (verV (genV l i)) (by kernel_rfl) (fun _ => by kernel_rfl) (fun w hO => gen_any v l i w ((hv.below hO.below).more hO.below.size) hl (by omega)) ?_
    refine s_alloc_at (.agg #[.int .i64 0, .int .i64 0, .int .i64 0, .string ⟨#[]⟩, .string ⟨#[]⟩]) (by kernel_rfl) rfl (by kernel_rfl) (fun b2 => ?_)
    refine s_store_at 0 ⟨b2, #[.int .i64 0, .int .i64 0, .int .i64 0, .string ⟨#[]⟩, .string ⟨#[]⟩], 24⟩ (off := 0) (verV (genV l i)) (by kernel_rfl) rfl rfl (by kernel_rfl) (by kernel_rfl) (by kernel_rfl) (by kernel_rfl) (by kernel_rfl) ?_
    refine s_nil ?_
    refine fin_seq ?_
    refine ok_seq ?_
    refine ok_region ?_
    refine s_val (.pointer (some ⟨b2, 4, none⟩)) (by kernel_rfl) (fun _ => by kernel_rfl) ?_
    refine s_store_at 0 ⟨b2, (verV (genV l i)).cells, 24⟩ (off := 4) (.string ⟨#[]⟩) (by kernel_rfl) rfl rfl (by kernel_rfl) (by kernel_rfl) (by kernel_rfl) (by kernel_rfl) (by kernel_rfl) ?_
    refine s_nil ?_
    refine fin_seq ?_
    refine ok_seq ?_
    refine ok_drawt 7 (by kernel_rfl) (by kernel_rfl) (by kernel_rfl) ?_
    simp only [List.take_succ_cons, List.take_zero, List.drop_succ_cons, List.drop_zero]
    refine q_load 0 ⟨b2, #[.int .i64 ((genV l i).maj), .int .i64 ((genV l i).min), .int .i64 ((genV l i).pat), .string (mkS (genV l i).pre), .string ⟨#[]⟩], 24⟩ (off := 0) (.agg #[.int .i64 ((genV l i).maj), .int .i64 ((genV l i).min), .int .i64 ((genV l i).pat), .string (mkS (genV l i).pre), .string ⟨#[]⟩]) (by kernel_rfl) rfl (by kernel_rfl) (by kernel_rfl) (by kernel_rfl) ?_
    refine q_val (v) (by kernel_rfl) (fun _ => by kernel_rfl) ?_
    refine q_val (.int .i64 ((i : Nat) : Int)) (by kernel_rfl) (fun _ => by kernel_rfl) ?_
    refine q_sum (k := .i64) (((i + 5 : Nat) : Int)) (by kernel_rfl) (fun _ => by kernel_rfl) (IntWalk.i64_in _ (by omega)) ?_
    refine q_call (k := 36) (args := #[v, .int .i64 ((i + 5 : Nat) : Int), .int .i64 2]) (.int .i64 (k1 : Int)) (by kernel_rfl) (fun _ => by kernel_rfl) (fun w hO => f1 w hO.below) ?_
    by_cases h2 : ((k1 : Int) : Int) = 1
    · skip
      refine q_dec (p := ((k1 : Int) : Int) = 1) true (by kernel_rfl) (fun _ => by kernel_rfl) (decide_eq_true (h2)) ?_
      refine q_val (.agg #[.int .i64 0, .int .i64 ((genV l i).maj), .int .i64 ((genV l i).min), .int .i64 ((genV l i).pat), .string (mkS (genV l i).pre), .string ⟨#[]⟩, .bool true]) (by kernel_rfl) (fun _ => by kernel_rfl) ?_
      refine q_nil ?_
      refine s_store_at 1 ⟨b1, #[.int .i64 0, .int .i64 0, .int .i64 0, .int .i64 0, .string ⟨#[]⟩, .string ⟨#[]⟩, .bool false], 35⟩ (off := 0) (.agg #[.int .i64 0, .int .i64 ((genV l i).maj), .int .i64 ((genV l i).min), .int .i64 ((genV l i).pat), .string (mkS (genV l i).pre), .string ⟨#[]⟩, .bool true]) (by kernel_rfl) rfl rfl (by kernel_rfl) (by kernel_rfl) (by kernel_rfl) (by kernel_rfl) (by kernel_rfl) ?_
      refine s_nil ?_
      refine fin_seq ?_
      refine ok_ret ?_
      refine fin_cell 1 ⟨b1, #[.int .i64 0, .int .i64 ((genV l i).maj), .int .i64 ((genV l i).min), .int .i64 ((genV l i).pat), .string (mkS (genV l i).pre), .string ⟨#[]⟩, .bool true], 35⟩ (off := 0) (.agg #[.int .i64 0, .int .i64 ((genV l i).maj), .int .i64 ((genV l i).min), .int .i64 ((genV l i).pat), .string (mkS (genV l i).pre), .string ⟨#[]⟩, .bool true]) Try.results37 (by kernel_rfl) (by kernel_rfl) (by kernel_rfl) ?_
      exact fun w hO => ⟨by rw [show cutV (genC l i) = .agg #[.int .i64 0, .int .i64 ((genV l i).maj), .int .i64 ((genV l i).min), .int .i64 ((genV l i).pat), .string (mkS (genV l i).pre), .string ⟨#[]⟩, .bool true] from by unfold genC; rw [show plc (atL l (i + 5)) 9 = _ from e0, show plc (atL l (i + 5)) 2 = _ from e1]; simp [h1, h2]; rfl], hO.below⟩
    · skip
      refine q_dec (p := ((k1 : Int) : Int) = 1) false (by kernel_rfl) (fun _ => by kernel_rfl) (decide_eq_false (h2)) ?_
      refine q_val (.agg #[.int .i64 0, .int .i64 ((genV l i).maj), .int .i64 ((genV l i).min), .int .i64 ((genV l i).pat), .string (mkS (genV l i).pre), .string ⟨#[]⟩, .bool false]) (by kernel_rfl) (fun _ => by kernel_rfl) ?_
      refine q_nil ?_
      refine s_store_at 1 ⟨b1, #[.int .i64 0, .int .i64 0, .int .i64 0, .int .i64 0, .string ⟨#[]⟩, .string ⟨#[]⟩, .bool false], 35⟩ (off := 0) (.agg #[.int .i64 0, .int .i64 ((genV l i).maj), .int .i64 ((genV l i).min), .int .i64 ((genV l i).pat), .string (mkS (genV l i).pre), .string ⟨#[]⟩, .bool false]) (by kernel_rfl) rfl rfl (by kernel_rfl) (by kernel_rfl) (by kernel_rfl) (by kernel_rfl) (by kernel_rfl) ?_
      refine s_nil ?_
      refine fin_seq ?_
      refine ok_ret ?_
      refine fin_cell 1 ⟨b1, #[.int .i64 0, .int .i64 ((genV l i).maj), .int .i64 ((genV l i).min), .int .i64 ((genV l i).pat), .string (mkS (genV l i).pre), .string ⟨#[]⟩, .bool false], 35⟩ (off := 0) (.agg #[.int .i64 0, .int .i64 ((genV l i).maj), .int .i64 ((genV l i).min), .int .i64 ((genV l i).pat), .string (mkS (genV l i).pre), .string ⟨#[]⟩, .bool false]) Try.results37 (by kernel_rfl) (by kernel_rfl) (by kernel_rfl) ?_
      exact fun w hO => ⟨by rw [show cutV (genC l i) = .agg #[.int .i64 0, .int .i64 ((genV l i).maj), .int .i64 ((genV l i).min), .int .i64 ((genV l i).pat), .string (mkS (genV l i).pre), .string ⟨#[]⟩, .bool false] from by unfold genC; rw [show plc (atL l (i + 5)) 9 = _ from e0, show plc (atL l (i + 5)) 2 = _ from e1]; simp [h1, h2]; rfl], hO.below⟩
end Go.Proofs.Ytmlecnomdamgnaa
end

section
/-
  linchpinlaw0.Spans, Row: the spans, the row that the list's numbers name.
-/
namespace Go.Proofs.Ytmlecnomdamgnaa
open Go.RowKit
set_option maxRecDepth 100000
set_option linter.unusedVariables false
set_option linter.unusedSimpArgs false
set_option maxHeartbeats 2000000

theorem Own.mid {M : List Nat} {W w : World} {E ob : List Blk} (h : Own M W w (E ++ ob ++ [])) : Own M W w (ob ++ []) := Own.sub E (by rw [← List.append_assoc]; exact h)
def ordSp (c d : Cu) : Sp := if 0 < cmpC c d then ⟨d, c⟩ else ⟨c, d⟩
def spG (l : List Int) (i n : Nat) : Sp := ordSp (genC l (i + 12 * n - 11)) (genC l (i + 12 * n - 5))
def spansG (l : List Int) (i : Nat) : Nat → List Sp
  | 0 => []
  | n + 1 => (if (spG l i (n + 1)).may then [spG l i (n + 1)] else []) ++ spansG l i n
theorem genC_short (l : List Int) (i : Nat) : (genC l i).short := ⟨by have := genC_pre l i; omega, by have := genC_bld l i; omega⟩
theorem spansG_may (l : List Int) (i : Nat) : ∀ n, ∀ s ∈ spansG l i n, s.may = true
  | 0, s, hs => by simp [spansG] at hs
  | n + 1, s, hs => by
    unfold spansG at hs
    rcases List.mem_append.1 hs with h | h
    · split at h
      · rename_i hm
        obtain rfl : s = _ := by simpa using h
        exact hm
      · simp at h
    · exact spansG_may l i n s h
theorem spansG_len (l : List Int) (i : Nat) : ∀ n, (spansG l i n).length ≤ n
  | 0 => by simp [spansG]
  | n + 1 => by
    have ih := spansG_len l i n
    unfold spansG
    split
    · simp; omega
    · simp; omega
structure SpI (l : List Int) (i N n : Nat) (z : Int) (u : Value) (acc : List Sp) (ob : List Blk) : Prop where
  z : z = (n : Int)
  sl : SlS u acc ob
  len : acc.length + n ≤ N
  eq : acc ++ spansG l i n = spansG l i N
theorem SpI.keep {l : List Int} {i N n : Nat} {z : Int} {u : Value} {acc : List Sp} {ob : List Blk} (h : SpI l i N n z u acc ob) (h0 : 0 < n) {s : Sp} (hs : spG l i n = s) (hm : s.may = false) : SpI l i N (n - 1) (z - 1) u acc ob :=
  ⟨by have := h.z; omega, h.sl, by have := h.len; omega, by
    obtain ⟨m, rfl⟩ : ∃ m, n = m + 1 := ⟨n - 1, by omega⟩
    have e := h.eq
    rw [show spansG l i (m + 1) = (if (spG l i (m + 1)).may then [spG l i (m + 1)] else []) ++ spansG l i m from rfl, hs, hm] at e
    simpa using e⟩
theorem SpI.grow {l : List Int} {i N n : Nat} {z : Int} {u u2 : Value} {acc : List Sp} {ob ob2 : List Blk} (h : SpI l i N n z u acc ob) (h0 : 0 < n) {s : Sp} (hs : spG l i n = s) (hm : s.may = true) (h2 : Sl 37 14 u2 (acc.length + 1) (acc.flatMap spanC ++ spanC s) ob2) : SpI l i N (n - 1) (z - 1) u2 (acc ++ [s]) ob2 :=
  ⟨by have := h.z; omega, h2.to (by simp) (by simp), by have := h.len; simp; omega, by
    obtain ⟨m, rfl⟩ : ∃ m, n = m + 1 := ⟨n - 1, by omega⟩
    have e := h.eq
    rw [show spansG l i (m + 1) = (if (spG l i (m + 1)).may then [spG l i (m + 1)] else []) ++ spansG l i m from rfl, hs, hm] at e
    simpa using e⟩

theorem spans_any (v : Value) (l : List Int) (i most : Nat) (W : World) (hv : ReadsI W W.heap.size v l) (hl : l.length ≤ 9223372036854775807) (hi : i ≤ 50000) (hm : most ≤ 1000) :
    Calls Try.prog 14 #[v, .int .i64 (i : Int), .int .i64 (most : Int)] W fun e w' => ∃ v' ob', e = .returned v' ∧ SlS v' (spansG l i (plc (atL l i) (most + 1 : Nat)).toNat) ob' ∧ Own [] W w' ob' := by
  obtain ⟨N, e0, q0⟩ := plc_nat' (atL l i) (most + 1) (by omega)
  have f0 := from_in hv hl i (most + 1 : Nat) (by omega) (by omega) (by omega) e0
  rw [e0, Int.toNat_natCast]
  refine calls_ok (n := 53) Try.func14 rfl (by kernel_rfl) (by kernel_rfl) ?_
  refine ok_seq ?_
  refine ok_region ?_
  refine s_val (.slice none 0 0) (by kernel_rfl) (fun _ => by kernel_rfl) ?_
  refine s_nil ?_
  refine fin_seq ?_
  refine ok_seq ?_
  refine ok_region ?_
  refine s_val (.slice none 0 0) (by kernel_rfl) (fun _ => by kernel_rfl) ?_
  refine s_nil ?_
  refine fin_seq ?_
  refine ok_seq ?_
  refine ok_seq ?_
  refine ok_region ?_
  refine s_val (v) (by kernel_rfl) (fun _ => by kernel_rfl) ?_
  refine s_val (.int .i64 (i : Int)) (by kernel_rfl) (fun _ => by kernel_rfl) ?_
  refine s_val (.int .i64 (most : Int)) (by kernel_rfl) (fun _ => by kernel_rfl) ?_
  refine s_sum (k := .i64) (((most + 1 : Nat) : Int)) (by kernel_rfl) (fun _ => by kernel_rfl) (IntWalk.i64_in _ (by omega)) ?_
  refine s_call (k := 36) (args := #[v, .int .i64 (i : Int), .int .i64 ((most + 1 : Nat) : Int)]) (.int .i64 (N : Int)) (by kernel_rfl) (fun _ => by kernel_rfl) (fun w hO => f0 w hO.below) ?_
  refine s_val (.int .i64 (N : Int)) (by kernel_rfl) (fun _ => by kernel_rfl) ?_
  refine s_nil ?_
  refine fin_seq ?_
  refine ok_block ?_
  refine ok_cast (L' := [] ++ []) rfl ?_
  refine ok_loop (fun L f m => ∃ (n : Nat) (z : Int) (u : Value) (acc : List Sp) (ob : List Blk) (j : Nat → Value), (SpI l i N n z u acc ob) ∧ L = ob ++ [] ∧ f = upds j [(0, v), (1, .int .i64 (i : Int)), (7, u), (8, .int .i64 z)] ∧ m = z.toNat) ((N : Int).toNat) ⟨N, _, _, [], [], _, ⟨rfl, Sl.nil _ _, by simp, rfl⟩, rfl, upds_self _ ⟨by kernel_rfl, by kernel_rfl, by kernel_rfl, by kernel_rfl, trivial⟩, rfl⟩ ?_
  rintro L f m ⟨n, z, u, acc, ob, j, hrel, rfl, rfl, rfl⟩
  refine ok_seq ?_
  refine ok_seq ?_
  refine ok_region ?_
  refine s_val (.int .i64 z) (by kernel_rfl) (fun _ => by kernel_rfl) ?_
  by_cases h1 : (0 : Int) < z
  · skip
    have hz := hrel.z
    have hlen := hrel.len
    obtain ⟨c, hc⟩ : ∃ c, genC l (i + 12 * n - 11) = c := ⟨_, rfl⟩
    obtain ⟨d, hd⟩ : ∃ d, genC l (i + 12 * n - 5) = d := ⟨_, rfl⟩
    have hcS : c.short := hc ▸ genC_short l _
    have hdS : d.short := hd ▸ genC_short l _
    have hsp : spG l i n = ordSp c d := by unfold spG; rw [hc, hd]
    refine s_dec (p := (0 : Int) < z) true (by kernel_rfl) (fun _ => by kernel_rfl) (decide_eq_true (h1)) ?_
    refine s_nil ?_
    refine fin_seq ?_
    refine ok_true (by kernel_rfl) ?_
    refine ok_skip ?_
    refine fin_seq ?_
    refine ok_seq ?_
    refine ok_block ?_
    refine ok_seq ?_
    refine ok_region ?_
    refine s_val (v) (by kernel_rfl) (fun _ => by kernel_rfl) ?_
    refine s_val (.int .i64 (i : Int)) (by kernel_rfl) (fun _ => by kernel_rfl) ?_
    refine s_val (.int .i64 z) (by kernel_rfl) (fun _ => by kernel_rfl) ?_
    refine s_sum (k := .i64) ((12 : Int) * z) (by kernel_rfl) (fun _ => by kernel_rfl) (IntWalk.i64_in _ (by omega)) ?_
    refine s_sum (k := .i64) (((i : Int) : Int) + ((12 : Int) * z)) (by kernel_rfl) (fun _ => by kernel_rfl) (IntWalk.i64_in _ (by omega)) ?_
    refine s_sum (k := .i64) (((((i : Int) : Int) + ((12 : Int) * z)) : Int) - 11) (by kernel_rfl) (fun _ => by kernel_rfl) (IntWalk.i64_in _ (by omega)) ?_
    refine s_call (k := 37) (args := #[v, .int .i64 (((((i : Int) : Int) + ((12 : Int) * z)) : Int) - 11)]) (cutV c) (by kernel_rfl) (fun _ => by kernel_rfl) (fun w hO => by rw [show ((((i : Int) : Int) + ((12 : Int) * z)) : Int) - 11 = ((i + 12 * n - 11 : Nat) : Int) from by omega, ← hc]; exact genC_any v l (i + 12 * n - 11) w ((hv.below hO.below).more hO.below.size) hl (by omega)) ?_
    refine s_val (v) (by kernel_rfl) (fun _ => by kernel_rfl) ?_
    refine s_val (.int .i64 (i : Int)) (by kernel_rfl) (fun _ => by kernel_rfl) ?_
    refine s_val (.int .i64 z) (by kernel_rfl) (fun _ => by kernel_rfl) ?_
    refine s_sum (k := .i64) ((12 : Int) * z) (by kernel_rfl) (fun _ => by kernel_rfl) (IntWalk.i64_in _ (by omega)) ?_
    refine s_sum (k := .i64) (((i : Int) : Int) + ((12 : Int) * z)) (by kernel_rfl) (fun _ => by kernel_rfl) (IntWalk.i64_in _ (by omega)) ?_
    refine s_sum (k := .i64) (((((i : Int) : Int) + ((12 : Int) * z)) : Int) - 5) (by kernel_rfl) (fun _ => by kernel_rfl) (IntWalk.i64_in _ (by omega)) ?_
    refine s_call (k := 37) (args := #[v, .int .i64 (((((i : Int) : Int) + ((12 : Int) * z)) : Int) - 5)]) (cutV d) (by kernel_rfl) (fun _ => by kernel_rfl) (fun w hO => by rw [show ((((i : Int) : Int) + ((12 : Int) * z)) : Int) - 5 = ((i + 12 * n - 5 : Nat) : Int) from by omega, ← hd]; exact genC_any v l (i + 12 * n - 5) w ((hv.below hO.below).more hO.below.size) hl (by omega)) ?_
    refine s_val (.agg #[.int .i64 c.e, .int .i64 c.v.maj, .int .i64 c.v.min, .int .i64 c.v.pat, .string (mkS c.v.pre), .string (mkS c.v.build), .bool c.aft, .int .i64 d.e, .int .i64 d.v.maj, .int .i64 d.v.min, .int .i64 d.v.pat, .string (mkS d.v.pre), .string (mkS d.v.build), .bool d.aft]) (by kernel_rfl) (fun _ => by kernel_rfl) ?_
    refine s_alloc_at (.agg #[.int .i64 0, .int .i64 0, .int .i64 0, .int .i64 0, .string ⟨#[]⟩, .string ⟨#[]⟩, .bool false, .int .i64 0, .int .i64 0, .int .i64 0, .int .i64 0, .string ⟨#[]⟩, .string ⟨#[]⟩, .bool false]) (by kernel_rfl) rfl (by kernel_rfl) (fun b1 => ?_)
    refine s_store_at 0 ⟨b1, #[.int .i64 0, .int .i64 0, .int .i64 0, .int .i64 0, .string ⟨#[]⟩, .string ⟨#[]⟩, .bool false, .int .i64 0, .int .i64 0, .int .i64 0, .int .i64 0, .string ⟨#[]⟩, .string ⟨#[]⟩, .bool false], 37⟩ (off := 0) (.agg #[.int .i64 c.e, .int .i64 c.v.maj, .int .i64 c.v.min, .int .i64 c.v.pat, .string (mkS c.v.pre), .string (mkS c.v.build), .bool c.aft, .int .i64 d.e, .int .i64 d.v.maj, .int .i64 d.v.min, .int .i64 d.v.pat, .string (mkS d.v.pre), .string (mkS d.v.build), .bool d.aft]) (by kernel_rfl) rfl rfl (by kernel_rfl) (by kernel_rfl) (by kernel_rfl) (by kernel_rfl) (by kernel_rfl) ?_
    refine s_nil ?_
    refine fin_seq ?_
    refine ok_seq ?_
    refine ok_seq ?_
    refine ok_region ?_
    refine s_val (.pointer (some ⟨b1, 0, none⟩)) (by kernel_rfl) (fun _ => by kernel_rfl) ?_
    refine s_load 0 ⟨b1, #[.int .i64 c.e, .int .i64 c.v.maj, .int .i64 c.v.min, .int .i64 c.v.pat, .string (mkS c.v.pre), .string (mkS c.v.build), .bool c.aft, .int .i64 d.e, .int .i64 d.v.maj, .int .i64 d.v.min, .int .i64 d.v.pat, .string (mkS d.v.pre), .string (mkS d.v.build), .bool d.aft], 37⟩ (off := 0) (.agg #[.int .i64 c.e, .int .i64 c.v.maj, .int .i64 c.v.min, .int .i64 c.v.pat, .string (mkS c.v.pre), .string (mkS c.v.build), .bool c.aft]) (by kernel_rfl) rfl (by kernel_rfl) (by kernel_rfl) (by kernel_rfl) ?_
    refine s_val (.pointer (some ⟨b1, 7, none⟩)) (by kernel_rfl) (fun _ => by kernel_rfl) ?_
    refine s_load 0 ⟨b1, #[.int .i64 c.e, .int .i64 c.v.maj, .int .i64 c.v.min, .int .i64 c.v.pat, .string (mkS c.v.pre), .string (mkS c.v.build), .bool c.aft, .int .i64 d.e, .int .i64 d.v.maj, .int .i64 d.v.min, .int .i64 d.v.pat, .string (mkS d.v.pre), .string (mkS d.v.build), .bool d.aft], 37⟩ (off := 7) (.agg #[.int .i64 d.e, .int .i64 d.v.maj, .int .i64 d.v.min, .int .i64 d.v.pat, .string (mkS d.v.pre), .string (mkS d.v.build), .bool d.aft]) (by kernel_rfl) rfl (by kernel_rfl) (by kernel_rfl) (by kernel_rfl) ?_
    refine s_call (k := 32) (args := #[.agg #[.int .i64 c.e, .int .i64 c.v.maj, .int .i64 c.v.min, .int .i64 c.v.pat, .string (mkS c.v.pre), .string (mkS c.v.build), .bool c.aft], .agg #[.int .i64 d.e, .int .i64 d.v.maj, .int .i64 d.v.min, .int .i64 d.v.pat, .string (mkS d.v.pre), .string (mkS d.v.build), .bool d.aft]]) (.int .i64 (cmpC c d)) (by kernel_rfl) (fun _ => by kernel_rfl) (fun w _ => rcmpC_any c d w hcS hdS) ?_
    by_cases h2 : (0 : Int) < cmpC c d
    · skip
      rw [show ordSp c d = ⟨d, c⟩ from if_pos h2] at hsp
      refine s_dec (p := (0 : Int) < cmpC c d) true (by kernel_rfl) (fun _ => by kernel_rfl) (decide_eq_true (h2)) ?_
      refine s_nil ?_
      refine fin_seq ?_
      refine ok_true (by kernel_rfl) ?_
      refine ok_region ?_
      refine s_val (.pointer (some ⟨b1, 7, none⟩)) (by kernel_rfl) (fun _ => by kernel_rfl) ?_
      refine s_load 0 ⟨b1, #[.int .i64 c.e, .int .i64 c.v.maj, .int .i64 c.v.min, .int .i64 c.v.pat, .string (mkS c.v.pre), .string (mkS c.v.build), .bool c.aft, .int .i64 d.e, .int .i64 d.v.maj, .int .i64 d.v.min, .int .i64 d.v.pat, .string (mkS d.v.pre), .string (mkS d.v.build), .bool d.aft], 37⟩ (off := 7) (.agg #[.int .i64 d.e, .int .i64 d.v.maj, .int .i64 d.v.min, .int .i64 d.v.pat, .string (mkS d.v.pre), .string (mkS d.v.build), .bool d.aft]) (by kernel_rfl) rfl (by kernel_rfl) (by kernel_rfl) (by kernel_rfl) ?_
      refine s_val (.pointer (some ⟨b1, 0, none⟩)) (by kernel_rfl) (fun _ => by kernel_rfl) ?_
      refine s_load 0 ⟨b1, #[.int .i64 c.e, .int .i64 c.v.maj, .int .i64 c.v.min, .int .i64 c.v.pat, .string (mkS c.v.pre), .string (mkS c.v.build), .bool c.aft, .int .i64 d.e, .int .i64 d.v.maj, .int .i64 d.v.min, .int .i64 d.v.pat, .string (mkS d.v.pre), .string (mkS d.v.build), .bool d.aft], 37⟩ (off := 0) (.agg #[.int .i64 c.e, .int .i64 c.v.maj, .int .i64 c.v.min, .int .i64 c.v.pat, .string (mkS c.v.pre), .string (mkS c.v.build), .bool c.aft]) (by kernel_rfl) rfl (by kernel_rfl) (by kernel_rfl) (by kernel_rfl) ?_
      refine s_val (.pointer (some ⟨b1, 0, none⟩)) (by kernel_rfl) (fun _ => by kernel_rfl) ?_
      refine s_store_at 0 ⟨b1, #[.int .i64 c.e, .int .i64 c.v.maj, .int .i64 c.v.min, .int .i64 c.v.pat, .string (mkS c.v.pre), .string (mkS c.v.build), .bool c.aft, .int .i64 d.e, .int .i64 d.v.maj, .int .i64 d.v.min, .int .i64 d.v.pat, .string (mkS d.v.pre), .string (mkS d.v.build), .bool d.aft], 37⟩ (off := 0) (.agg #[.int .i64 d.e, .int .i64 d.v.maj, .int .i64 d.v.min, .int .i64 d.v.pat, .string (mkS d.v.pre), .string (mkS d.v.build), .bool d.aft]) (by kernel_rfl) rfl rfl (by kernel_rfl) (by kernel_rfl) (by kernel_rfl) (by kernel_rfl) (by kernel_rfl) ?_
      refine s_val (.pointer (some ⟨b1, 7, none⟩)) (by kernel_rfl) (fun _ => by kernel_rfl) ?_
      refine s_store_at 0 ⟨b1, #[.int .i64 d.e, .int .i64 d.v.maj, .int .i64 d.v.min, .int .i64 d.v.pat, .string (mkS d.v.pre), .string (mkS d.v.build), .bool d.aft, .int .i64 d.e, .int .i64 d.v.maj, .int .i64 d.v.min, .int .i64 d.v.pat, .string (mkS d.v.pre), .string (mkS d.v.build), .bool d.aft], 37⟩ (off := 7) (.agg #[.int .i64 c.e, .int .i64 c.v.maj, .int .i64 c.v.min, .int .i64 c.v.pat, .string (mkS c.v.pre), .string (mkS c.v.build), .bool c.aft]) (by kernel_rfl) rfl rfl (by kernel_rfl) (by kernel_rfl) (by kernel_rfl) (by kernel_rfl) (by kernel_rfl) ?_
      refine s_nil ?_
      refine fin_seq ?_
      refine ok_seq ?_
      refine ok_region ?_
      refine s_load 0 ⟨b1, #[.int .i64 d.e, .int .i64 d.v.maj, .int .i64 d.v.min, .int .i64 d.v.pat, .string (mkS d.v.pre), .string (mkS d.v.build), .bool d.aft, .int .i64 c.e, .int .i64 c.v.maj, .int .i64 c.v.min, .int .i64 c.v.pat, .string (mkS c.v.pre), .string (mkS c.v.build), .bool c.aft], 37⟩ (off := 0) (.agg #[.int .i64 d.e, .int .i64 d.v.maj, .int .i64 d.v.min, .int .i64 d.v.pat, .string (mkS d.v.pre), .string (mkS d.v.build), .bool d.aft, .int .i64 c.e, .int .i64 c.v.maj, .int .i64 c.v.min, .int .i64 c.v.pat, .string (mkS c.v.pre), .string (mkS c.v.build), .bool c.aft]) (by kernel_rfl) rfl (by kernel_rfl) (by kernel_rfl) (by kernel_rfl) ?_
      refine s_call (k := 28) (args := #[.agg #[.int .i64 d.e, .int .i64 d.v.maj, .int .i64 d.v.min, .int .i64 d.v.pat, .string (mkS d.v.pre), .string (mkS d.v.build), .bool d.aft, .int .i64 c.e, .int .i64 c.v.maj, .int .i64 c.v.min, .int .i64 c.v.pat, .string (mkS c.v.pre), .string (mkS c.v.build), .bool c.aft]]) (.bool ((⟨d, c⟩ : Sp).may)) (by kernel_rfl) (fun _ => by kernel_rfl) (fun w _ => rspanMay_any ⟨d, c⟩ w ⟨hdS, hcS⟩) ?_
      refine s_nil ?_
      refine fin_seq ?_
      cases h3 : (⟨d, c⟩ : Sp).may with
      | true =>
        refine ok_true (by kernel_rfl) ?_
        refine ok_region ?_
        refine s_val (u) (by kernel_rfl) (fun _ => by kernel_rfl) ?_
        refine s_load 0 ⟨b1, #[.int .i64 d.e, .int .i64 d.v.maj, .int .i64 d.v.min, .int .i64 d.v.pat, .string (mkS d.v.pre), .string (mkS d.v.build), .bool d.aft, .int .i64 c.e, .int .i64 c.v.maj, .int .i64 c.v.min, .int .i64 c.v.pat, .string (mkS c.v.pre), .string (mkS c.v.build), .bool c.aft], 37⟩ (off := 0) (.agg #[.int .i64 d.e, .int .i64 d.v.maj, .int .i64 d.v.min, .int .i64 d.v.pat, .string (mkS d.v.pre), .string (mkS d.v.build), .bool d.aft, .int .i64 c.e, .int .i64 c.v.maj, .int .i64 c.v.min, .int .i64 c.v.pat, .string (mkS c.v.pre), .string (mkS c.v.build), .bool c.aft]) (by kernel_rfl) rfl (by kernel_rfl) (by kernel_rfl) (by kernel_rfl) ?_
        refine s_lit 37 #[.int .i64 d.e, .int .i64 d.v.maj, .int .i64 d.v.min, .int .i64 d.v.pat, .string (mkS d.v.pre), .string (mkS d.v.build), .bool d.aft, .int .i64 c.e, .int .i64 c.v.maj, .int .i64 c.v.min, .int .i64 c.v.pat, .string (mkS c.v.pre), .string (mkS c.v.build), .bool c.aft] (by kernel_rfl) rfl (fun _ => by kernel_rfl) (fun b2 => ?_)
        obtain ⟨i0, z0, e1, e2, e3, e4, e5⟩ := span_info
        refine s_cast (L' := [⟨b2, #[.int .i64 d.e, .int .i64 d.v.maj, .int .i64 d.v.min, .int .i64 d.v.pat, .string (mkS d.v.pre), .string (mkS d.v.build), .bool d.aft, .int .i64 c.e, .int .i64 c.v.maj, .int .i64 c.v.min, .int .i64 c.v.pat, .string (mkS c.v.pre), .string (mkS c.v.build), .bool c.aft], 37⟩, ⟨b1, #[.int .i64 d.e, .int .i64 d.v.maj, .int .i64 d.v.min, .int .i64 d.v.pat, .string (mkS d.v.pre), .string (mkS d.v.build), .bool d.aft, .int .i64 c.e, .int .i64 c.v.maj, .int .i64 c.v.min, .int .i64 c.v.pat, .string (mkS c.v.pre), .string (mkS c.v.build), .bool c.aft], 37⟩] ++ ob ++ []) (by rw [List.append_assoc]; kernel_rfl) ?_
        refine s_append (sz := 14) (by kernel_rfl) rfl Try.underlying22 e1 e2 e3 e4 (by kernel_rfl) hrel.sl (a := ⟨b2, 0, none⟩) (m := 1) (c := 1) (news := spanC ⟨d, c⟩) (by kernel_rfl) rfl (fun w hO j u hj => ?_) (span_cells _) (by unfold maxLen; omega) (by rw [e5]; omega) (fun u2 ob2 hu2 => ?_)
        · rw [add_off, cell_of_row w b2 (0 + j) (spanC ⟨d, c⟩).toArray 37 _ (hO.held ⟨b2, (spanC ⟨d, c⟩).toArray, 37⟩ (List.mem_append_left _ (List.mem_append_left _ (List.mem_cons_self ..))))]; simpa using hj
        refine s_val (u2) (by kernel_rfl) (fun _ => by kernel_rfl) ?_
        refine s_nil ?_
        refine fin_block ?_
        refine fin_seq ?_
        refine ok_region ?_
        refine s_val (.int .i64 z) (by kernel_rfl) (fun _ => by kernel_rfl) ?_
        refine s_sum (k := .i64) ((z : Int) - 1) (by kernel_rfl) (fun _ => by kernel_rfl) (IntWalk.i64_in _ (by omega)) ?_
        refine s_val (.int .i64 ((z : Int) - 1)) (by kernel_rfl) (fun _ => by kernel_rfl) ?_
        refine s_nil ?_
        refine fin_take (L' := ob2 ++ []) (fun w hO => Own.mid hO) ?_
        exact fin_round (m' := (z - 1).toNat) (by omega) ⟨n - 1, z - 1, u2, _, ob2, _, hrel.grow (by omega) hsp (by assumption) hu2, rfl, upds_self _ ⟨by kernel_rfl, by kernel_rfl, by kernel_rfl, by kernel_rfl, trivial⟩, rfl⟩
      | false =>
        refine ok_false (by kernel_rfl) ?_
        refine ok_skip ?_
        refine fin_block ?_
        refine fin_seq ?_
        refine ok_region ?_
        refine s_val (.int .i64 z) (by kernel_rfl) (fun _ => by kernel_rfl) ?_
        refine s_sum (k := .i64) ((z : Int) - 1) (by kernel_rfl) (fun _ => by kernel_rfl) (IntWalk.i64_in _ (by omega)) ?_
        refine s_val (.int .i64 ((z : Int) - 1)) (by kernel_rfl) (fun _ => by kernel_rfl) ?_
        refine s_nil ?_
        refine fin_take (L' := ob ++ []) (fun w hO => Own.sub [_] hO) ?_
        exact fin_round (m' := (z - 1).toNat) (by omega) ⟨n - 1, z - 1, u, acc, ob, _, hrel.keep (by omega) hsp (by assumption), rfl, upds_self _ ⟨by kernel_rfl, by kernel_rfl, by kernel_rfl, by kernel_rfl, trivial⟩, rfl⟩
    · skip
      rw [show ordSp c d = ⟨c, d⟩ from if_neg h2] at hsp
      refine s_dec (p := (0 : Int) < cmpC c d) false (by kernel_rfl) (fun _ => by kernel_rfl) (decide_eq_false (h2)) ?_
      refine s_nil ?_
      refine fin_seq ?_
      refine ok_false (by kernel_rfl) ?_
      refine ok_skip ?_
      refine fin_seq ?_
      refine ok_seq ?_
      refine ok_region ?_
      refine s_load 0 ⟨b1, #[.int .i64 c.e, .int .i64 c.v.maj, .int .i64 c.v.min, .int .i64 c.v.pat, .string (mkS c.v.pre), .string (mkS c.v.build), .bool c.aft, .int .i64 d.e, .int .i64 d.v.maj, .int .i64 d.v.min, .int .i64 d.v.pat, .string (mkS d.v.pre), .string (mkS d.v.build), .bool d.aft], 37⟩ (off := 0) (.agg #[.int .i64 c.e, .int .i64 c.v.maj, .int .i64 c.v.min, .int .i64 c.v.pat, .string (mkS c.v.pre), .string (mkS c.v.build), .bool c.aft, .int .i64 d.e, .int .i64 d.v.maj, .int .i64 d.v.min, .int .i64 d.v.pat, .string (mkS d.v.pre), .string (mkS d.v.build), .bool d.aft]) (by kernel_rfl) rfl (by kernel_rfl) (by kernel_rfl) (by kernel_rfl) ?_
      refine s_call (k := 28) (args := #[.agg #[.int .i64 c.e, .int .i64 c.v.maj, .int .i64 c.v.min, .int .i64 c.v.pat, .string (mkS c.v.pre), .string (mkS c.v.build), .bool c.aft, .int .i64 d.e, .int .i64 d.v.maj, .int .i64 d.v.min, .int .i64 d.v.pat, .string (mkS d.v.pre), .string (mkS d.v.build), .bool d.aft]]) (.bool ((⟨c, d⟩ : Sp).may)) (by kernel_rfl) (fun _ => by kernel_rfl) (fun w _ => rspanMay_any ⟨c, d⟩ w ⟨hcS, hdS⟩) ?_
      refine s_nil ?_
      refine fin_seq ?_
      cases h4 : (⟨c, d⟩ : Sp).may with
      | true =>
        refine ok_true (by kernel_rfl) ?_
        refine ok_region ?_
        refine s_val (u) (by kernel_rfl) (fun _ => by kernel_rfl) ?_
        refine s_load 0 ⟨b1, #[.int .i64 c.e, .int .i64 c.v.maj, .int .i64 c.v.min, .int .i64 c.v.pat, .string (mkS c.v.pre), .string (mkS c.v.build), .bool c.aft, .int .i64 d.e, .int .i64 d.v.maj, .int .i64 d.v.min, .int .i64 d.v.pat, .string (mkS d.v.pre), .string (mkS d.v.build), .bool d.aft], 37⟩ (off := 0) (.agg #[.int .i64 c.e, .int .i64 c.v.maj, .int .i64 c.v.min, .int .i64 c.v.pat, .string (mkS c.v.pre), .string (mkS c.v.build), .bool c.aft, .int .i64 d.e, .int .i64 d.v.maj, .int .i64 d.v.min, .int .i64 d.v.pat, .string (mkS d.v.pre), .string (mkS d.v.build), .bool d.aft]) (by kernel_rfl) rfl (by kernel_rfl) (by kernel_rfl) (by kernel_rfl) ?_
        refine s_lit 37 #[.int .i64 c.e, .int .i64 c.v.maj, .int .i64 c.v.min, .int .i64 c.v.pat, .string (mkS c.v.pre), .string (mkS c.v.build), .bool c.aft, .int .i64 d.e, .int .i64 d.v.maj, .int .i64 d.v.min, .int .i64 d.v.pat, .string (mkS d.v.pre), .string (mkS d.v.build), .bool d.aft] (by kernel_rfl) rfl (fun _ => by kernel_rfl) (fun b2 => ?_)
        obtain ⟨i0, z0, e1, e2, e3, e4, e5⟩ := span_info
        refine s_cast (L' := [⟨b2, #[.int .i64 c.e, .int .i64 c.v.maj, .int .i64 c.v.min, .int .i64 c.v.pat, .string (mkS c.v.pre), .string (mkS c.v.build), .bool c.aft, .int .i64 d.e, .int .i64 d.v.maj, .int .i64 d.v.min, .int .i64 d.v.pat, .string (mkS d.v.pre), .string (mkS d.v.build), .bool d.aft], 37⟩, ⟨b1, #[.int .i64 c.e, .int .i64 c.v.maj, .int .i64 c.v.min, .int .i64 c.v.pat, .string (mkS c.v.pre), .string (mkS c.v.build), .bool c.aft, .int .i64 d.e, .int .i64 d.v.maj, .int .i64 d.v.min, .int .i64 d.v.pat, .string (mkS d.v.pre), .string (mkS d.v.build), .bool d.aft], 37⟩] ++ ob ++ []) (by rw [List.append_assoc]; kernel_rfl) ?_
        refine s_append (sz := 14) (by kernel_rfl) rfl Try.underlying22 e1 e2 e3 e4 (by kernel_rfl) hrel.sl (a := ⟨b2, 0, none⟩) (m := 1) (c := 1) (news := spanC ⟨c, d⟩) (by kernel_rfl) rfl (fun w hO j u hj => ?_) (span_cells _) (by unfold maxLen; omega) (by rw [e5]; omega) (fun u2 ob2 hu2 => ?_)
        · rw [add_off, cell_of_row w b2 (0 + j) (spanC ⟨c, d⟩).toArray 37 _ (hO.held ⟨b2, (spanC ⟨c, d⟩).toArray, 37⟩ (List.mem_append_left _ (List.mem_append_left _ (List.mem_cons_self ..))))]; simpa using hj
        refine s_val (u2) (by kernel_rfl) (fun _ => by kernel_rfl) ?_
        refine s_nil ?_
        refine fin_block ?_
        refine fin_seq ?_
        refine ok_region ?_
        refine s_val (.int .i64 z) (by kernel_rfl) (fun _ => by kernel_rfl) ?_
        refine s_sum (k := .i64) ((z : Int) - 1) (by kernel_rfl) (fun _ => by kernel_rfl) (IntWalk.i64_in _ (by omega)) ?_
        refine s_val (.int .i64 ((z : Int) - 1)) (by kernel_rfl) (fun _ => by kernel_rfl) ?_
        refine s_nil ?_
        refine fin_take (L' := ob2 ++ []) (fun w hO => Own.mid hO) ?_
        exact fin_round (m' := (z - 1).toNat) (by omega) ⟨n - 1, z - 1, u2, _, ob2, _, hrel.grow (by omega) hsp (by assumption) hu2, rfl, upds_self _ ⟨by kernel_rfl, by kernel_rfl, by kernel_rfl, by kernel_rfl, trivial⟩, rfl⟩
      | false =>
        refine ok_false (by kernel_rfl) ?_
        refine ok_skip ?_
        refine fin_block ?_
        refine fin_seq ?_
        refine ok_region ?_
        refine s_val (.int .i64 z) (by kernel_rfl) (fun _ => by kernel_rfl) ?_
        refine s_sum (k := .i64) ((z : Int) - 1) (by kernel_rfl) (fun _ => by kernel_rfl) (IntWalk.i64_in _ (by omega)) ?_
        refine s_val (.int .i64 ((z : Int) - 1)) (by kernel_rfl) (fun _ => by kernel_rfl) ?_
        refine s_nil ?_
        refine fin_take (L' := ob ++ []) (fun w hO => Own.sub [_] hO) ?_
        exact fin_round (m' := (z - 1).toNat) (by omega) ⟨n - 1, z - 1, u, acc, ob, _, hrel.keep (by omega) hsp (by assumption), rfl, upds_self _ ⟨by kernel_rfl, by kernel_rfl, by kernel_rfl, by kernel_rfl, trivial⟩, rfl⟩
  · skip
    have hz := hrel.z
    have hlen := hrel.len
    refine s_dec (p := (0 : Int) < z) false (by kernel_rfl) (fun _ => by kernel_rfl) (decide_eq_false (h1)) ?_
    refine s_nil ?_
    refine fin_seq ?_
    refine ok_false (by kernel_rfl) ?_
    refine ok_exit ?_
    refine fin_seq_exit ?_
    refine fin_round_exit ?_
    refine fin_block_exit ?_
    refine fin_seq ?_
    refine ok_seq ?_
    refine ok_region ?_
    refine s_val (u) (by kernel_rfl) (fun _ => by kernel_rfl) ?_
    refine s_val (u) (by kernel_rfl) (fun _ => by kernel_rfl) ?_
    refine s_nil ?_
    refine fin_seq ?_
    refine ok_ret ?_
    refine fin_ret (u) Try.results14 (by kernel_rfl) ?_
    exact fun w hO => ⟨u, ob, rfl, by have e := hrel.eq; rw [show n = 0 from by omega, show spansG l i 0 = [] from rfl, List.append_nil] at e; rw [← e]; exact hrel.sl, by simpa using hO⟩
end Go.Proofs.Ytmlecnomdamgnaa
end

section
/-
  linchpinlaw0.Row: the row that the list's numbers name.
-/
namespace Go.Proofs.Ytmlecnomdamgnaa
open Go.RowKit
set_option maxRecDepth 100000
set_option linter.unusedVariables false
set_option linter.unusedSimpArgs false
set_option maxHeartbeats 2000000

theorem spG_short (l : List Int) (i n : Nat) : (spG l i n).short := by
  unfold spG ordSp
  split
  · exact ⟨genC_short l _, genC_short l _⟩
  · exact ⟨genC_short l _, genC_short l _⟩
theorem spansG_short (l : List Int) (i : Nat) : ∀ n, ShortL (spansG l i n)
  | 0 => fun s hs => by simp [spansG] at hs
  | n + 1 => fun s hs => by
    rw [show spansG l i (n + 1) = (if (spG l i (n + 1)).may then [spG l i (n + 1)] else []) ++ spansG l i n from rfl] at hs
    rcases List.mem_append.1 hs with h | h
    · split at h
      · obtain rfl : s = _ := by simpa using h
        exact spG_short l i _
      · simp at h
    · exact spansG_short l i n s h
def rowG (l : List Int) (i : Nat) : List Sp := makeL (spansG l i (plc (atL l i) (4 + 1 : Nat)).toNat)
theorem rowG_may (l : List Int) (i : Nat) : rowMay (rowG l i) = true := (make_ok (spansG_may l i _)).1

end Go.Proofs.Ytmlecnomdamgnaa
end

section
/-
  Steps: a load out of a block that is somewhere in the list. No condition of their own.
-/
namespace Go.Proofs.Ytmlecnomdamgnaa
open Go.RowKit
set_option linter.unusedVariables false
section
variable {M : List Nat} {P : Program} {n : Nat} {ops : Array Oper} {W : World} {Q : Exit → Act → World → Prop} {rest : List Oper} {o : Oper} {L : List Blk} {f : Nat → Value} {Qe : List Blk → (Nat → Value) → Prop}
theorem s_loadm (x : Blk) {ty : TypeId} {p : Operand} {off : Nat} (v : Value) (hw : want ops n f o = true) (ho : o.op = .load ty p) (hL : x ∈ L) (hp : ev n f p = .pointer (some ⟨x.b, off, none⟩)) (hv : readAt P ty x.cs off = some v)
    (h : Seg M P n ops W Q rest L (upd f o.dst v)) : Seg M P n ops W Q (o :: rest) L f :=
  s_read v hw (fun _ hO => run_load_op ho hp (run_readAt hv (hO.held x hL))) h
theorem q_loadm (x : Blk) {ty : TypeId} {p : Operand} {off : Nat} (v : Value) (hw : want ops n f o = true) (ho : o.op = .load ty p) (hL : x ∈ L) (hp : ev n f p = .pointer (some ⟨x.b, off, none⟩)) (hv : readAt P ty x.cs off = some v)
    (h : QSeg M P n ops W Qe rest L (upd f o.dst v)) : QSeg M P n ops W Qe (o :: rest) L f :=
  q_read v hw (fun _ hO => run_load_op ho hp (run_readAt hv (hO.held x hL))) h
end
end Go.Proofs.Ytmlecnomdamgnaa
end

section
/-
  What every statement of this seat's proof leans on at its end: from 'the call returns true and below the heap's old end nothing has changed' to the row's own words; the table that the row lists, read as a walk needs it. Conditions: none of its own.
-/
namespace Go.Proofs.Ytmlecnomdamgnaa
open Go.ChangeShapes Go.WideShapes Go.ChangeAt Go.RowKit

theorem own : ownKnob Try.prog.godebug = none := by kernel_rfl

theorem trodAll_stays {H : Type} {enc : TypeId × Value → H} {P : Program} (hl : laidOutB P = true) {W W' : World} (hb : Below W.heap.size W W') :
    ∀ (ts : List TypeId), (∀ t ∈ ts, P.readableRec t = true ∧ t < P.types.size) → ∀ (vs : List Value) (ds : List (DataW H)) (ps : List MemPlace), DataW.TrodAll enc P W 0 (fun _ => true) true ts vs ds ps → (∀ p ∈ ps, p.block < W.heap.size) →
      DataW.TrodAll enc P W' 0 (fun b => decide (b < W.heap.size)) true ts vs ds ps
  | [], _, vs, ds, ps, h, _ => by
    obtain ⟨rfl, rfl, rfl⟩ := trodAll_nil h
    exact trodAll_mk0
  | t :: ts, hr, vs, ds, ps, h, hlt => by
    obtain ⟨v, vs', d, ds', p, q, rfl, rfl, rfl, hd, hrest⟩ := trodAll_cons h
    exact ⟨p, q, Go.RowKit.Below.trod hl (hr t (by simp)).1 (hr t (by simp)).2 hd hb.old (fun x hx => hlt x (by simp [hx])), trodAll_stays hl hb ts (fun t' ht' => hr t' (by simp [ht'])) vs' ds' q hrest (fun x hx => hlt x (by simp [hx])), rfl⟩

/-- The end of a statement's row: the call has returned true, and below the heap's old end nothing has changed. -/
theorem law_end {H : Type} {enc : TypeId × Value → H} {P : Program} {f : Func} {s : ChangeSpec} {W W' : World} {args : Array Value} {ds gs : List (DataW H)} {before : List MemPlace} {T : TypeId}
    (hl : laidOutB P = true) (hr : ∀ t ∈ f.params.toList, P.readableRec t = true ∧ t < P.types.size) (hv : s.vars = []) (hT : f.resultTypes = #[T]) (hB : P.underlying T = some .bool)
    (hW : DataW.Whole enc P f.params.toList s.vars false W args.toList ds gs before) (hf : s.fn H (ds ++ gs) = { results := [.lit (.bool true)], args := ds }) (hb : Below W.heap.size W W') :
    s.post enc P f false true false false W args (.bool true) W' := by
  have hlt : ∀ p ∈ before, p.block < W.heap.size := fun p hp => hW.lt p hp
  have hW' := hW
  obtain ⟨p, q, hA, hV, rfl, _, _⟩ := hW
  rw [hv] at hV
  obtain ⟨rfl, rfl⟩ := trodVars_none hV
  have h2 := trodAll_stays hl hb _ hr _ _ _ hA (fun x hx => hlt x (by simp [hx]))
  refine ⟨ds, [], p ++ [], [], p, [], hW', ?_, ?_, ?_, World.keptBut_mono (fun x hx => ⟨hx, Or.inr (Or.inl (by simpa using hx))⟩) (hb.frame (· ∈ p ++ [])), fun h => by cases h⟩
  · rw [hf, hT]
    exact trodAll_cons_mk (shut_bool hB true) trodAll_mk0
  · rw [hf]; exact h2
  · rw [hf, hv]; rfl
theorem laidOut : laidOutB Try.prog = true := by kernel_rfl

theorem cell_lt {W : World} {a : Addr} {v : Value} (h : W.cell? a = some v) : a.block < W.heap.size := by
  rcases Nat.lt_or_ge a.block W.heap.size with h1 | h1
  · exact h1
  · unfold World.cell? at h
    rw [Array.getElem?_eq_none h1] at h
    simp at h
theorem strCells1 : Try.prog.cellsOf 9 = 1 := by kernel_rfl
set_option maxRecDepth 100000 in
/-- A slice of strings that came in reads as a list of byte lists. -/
theorem open_texts {H : Type} {enc : TypeId × Value → H} {W : World} {base : Nat} {v : Value} {d : DataW H} {ps : List MemPlace} (hval : Value.okWide Try.prog W .any base 88 v)
    (h : DataW.Trod enc Try.prog W 0 (fun _ => true) true 88 v d ps) : ∃ l : List (List UInt8), ReadsT W W.heap.size v l ∧ l.length ≤ maxLen ∧ ∀ x ∈ l, x.length ≤ maxLen := by
  obtain ⟨A, len, cap, rfl⟩ := okWide_slice Try.underlying88 hval
  obtain ⟨fuel, hf⟩ := h
  rcases open_strings Try.underlying88 Try.underlying9 strCells1 hf with ⟨hcs, _⟩ | ⟨a, len', cap', ss, hcs, _, hl, hm, hz, _, hcell, hws⟩
  · simp [Value.cells] at hcs
    obtain ⟨rfl, rfl, rfl⟩ := hcs
    exact ⟨[], ⟨none, 0, rfl, fun h => by cases h⟩, by simp, by simp⟩
  · simp [Value.cells] at hcs
    obtain ⟨rfl, rfl, rfl⟩ := hcs
    simp only [if_true] at hz
    have hlen : ((ss.take len).map (·.data.toList)).length = len := by rw [List.length_map, List.length_take]; omega
    refine ⟨(ss.take len).map (·.data.toList), ⟨some a, cap, by rw [hlen], fun h0 => ⟨a, rfl, ?_, fun j hj => ?_⟩⟩, by rw [hlen]; omega, fun x hx => ?_⟩
    · have := cell_lt (hcell 0 (by omega))
      rwa [addr_block] at this
    · have hj2 : j < ss.length := by omega
      rw [hcell j hj2, List.getElem_map, List.getElem_take]
      simp only [List.getD, List.getElem?_eq_getElem hj2, Option.getD_some]
      rfl
    · obtain ⟨s, hs, rfl⟩ := List.mem_map.1 hx
      have := hws s (List.mem_of_mem_take hs)
      rw [len_data]; exact this

/-- The cells that a table of integers lays. -/
def tabCells : DataW Unit → Array Value
  | .agg l => (l.map fun d => match d with | .lit (.int k n) => Value.int k n | _ => Value.int .i64 0).toArray
  | _ => #[]
def layAt (h : Array Obj) (g : Nat) (d : DataW Unit) : Array Obj := h.modify g fun
  | .cells _ t frozen => .cells (tabCells d) t frozen
  | o => o

theorem u64Cells : Try.prog.cellsOf 86 = 1 := by kernel_rfl
end Go.Proofs.Ytmlecnomdamgnaa
end

section
/-
  Parameters that are versions, cuts or spans: what they are, out of the row's own conditions.
-/
namespace Go.Proofs.Ytmlecnomdamgnaa
open Go.ChangeShapes Go.WideShapes Go.ChangeAt Go.RowKit Go.Deep
set_option maxRecDepth 100000
set_option linter.unusedVariables false
set_option linter.unusedSimpArgs false

theorem mk_self (p : ByteArray) : mkS p.data.toList = p := by unfold mkS; simp
def Ver.wide (v : Ver) : Prop := v.pre.length ≤ maxLen ∧ v.build.length ≤ maxLen
def Ver.i64 (v : Ver) : Prop := ((-9223372036854775808 ≤ v.maj ∧ v.maj ≤ 9223372036854775807) ∧ (-9223372036854775808 ≤ v.min ∧ v.min ≤ 9223372036854775807)) ∧ (-9223372036854775808 ≤ v.pat ∧ v.pat ≤ 9223372036854775807)
theorem wf_i64 {a : Int} (h : (Lit.int .i64 a).wf = true) : -9223372036854775808 ≤ a ∧ a ≤ 9223372036854775807 := bounds_i64 h
section
variable {H : Type} {enc : TypeId × Value → H} {W : World}
theorem cells_int {fuel : Nat} {cs : List Value} {x : DataW H × List MemPlace} (h : DataW.trod enc Try.prog W 0 (fun _ => true) true fuel 3 cs = some x) : ∃ a, cs = [.int .i64 a] ∧ (-9223372036854775808 ≤ a ∧ a ≤ 9223372036854775807) := by
  obtain ⟨a, e, _, hw⟩ := DataW.trod_int Try.underlying3 h
  exact ⟨a, e, wf_i64 hw⟩
theorem cells_str {fuel : Nat} {cs : List Value} {x : DataW H × List MemPlace} (h : DataW.trod enc Try.prog W 0 (fun _ => true) true fuel 9 cs = some x) : ∃ p : List UInt8, cs = [.string (mkS p)] ∧ p.length ≤ maxLen := by
  obtain ⟨p, e, _, hw⟩ := DataW.trod_string Try.underlying9 h
  exact ⟨p.data.toList, by rw [mk_self]; exact e, by rw [len_data]; exact hw⟩
theorem cells_bool {fuel : Nat} {cs : List Value} {x : DataW H × List MemPlace} (h : DataW.trod enc Try.prog W 0 (fun _ => true) true fuel 4 cs = some x) : ∃ a, cs = [.bool a] := by
  obtain ⟨a, e, _⟩ := DataW.trod_bool Try.underlying4 h
  exact ⟨a, e⟩
theorem size_int : Try.prog.cellsOf 3 = 1 := by kernel_rfl
theorem size_str : Try.prog.cellsOf 9 = 1 := by kernel_rfl
theorem size_bool : Try.prog.cellsOf 4 = 1 := by kernel_rfl
theorem size_ver : Try.prog.cellsOf 24 = 5 := by kernel_rfl
theorem size_cut : Try.prog.cellsOf 35 = 7 := by kernel_rfl
theorem size_span : Try.prog.cellsOf 37 = 14 := by kernel_rfl
set_option maxRecDepth 100000 in
theorem cells_ver {fuel : Nat} {cs : List Value} {x : DataW H × List MemPlace} (h : DataW.trod enc Try.prog W 0 (fun _ => true) true fuel 24 cs = some x) : ∃ v : Ver, cs = (verV v).cells.toList ∧ v.wide ∧ v.i64 := by
  obtain ⟨xs, n, _, _, hl, hxl, hg⟩ := DataW.trod_struct Try.underlying24 h
  rw [size_ver] at hl
  match cs, hl with
  | [c0, c1, c2, c3, c4], _ =>
    have g : ∀ i, i < 5 → ∃ y, xs[i]? = some y := fun i hi => ⟨_, List.getElem?_eq_getElem (by rw [hxl]; exact hi)⟩
    obtain ⟨y0, e0⟩ := g 0 (by omega)
    obtain ⟨y1, e1⟩ := g 1 (by omega)
    obtain ⟨y2, e2⟩ := g 2 (by omega)
    obtain ⟨y3, e3⟩ := g 3 (by omega)
    obtain ⟨y4, e4⟩ := g 4 (by omega)
    obtain ⟨a, ha, wa⟩ := cells_int ((hg 0 _ rfl).trans e0)
    obtain ⟨b, hb, wb⟩ := cells_int ((hg 1 _ rfl).trans e1)
    obtain ⟨c, hc, wc⟩ := cells_int ((hg 2 _ rfl).trans e2)
    obtain ⟨p, hp, wp⟩ := cells_str ((hg 3 _ rfl).trans e3)
    obtain ⟨q, hq, wq⟩ := cells_str ((hg 4 _ rfl).trans e4)
    have ha2 : List.take (Try.prog.cellsOf 3) (List.drop 0 [c0, c1, c2, c3, c4]) = _ := ha
    have hb2 : List.take (Try.prog.cellsOf 3) (List.drop 1 [c0, c1, c2, c3, c4]) = _ := hb
    have hc2 : List.take (Try.prog.cellsOf 3) (List.drop 2 [c0, c1, c2, c3, c4]) = _ := hc
    have hp2 : List.take (Try.prog.cellsOf 9) (List.drop 3 [c0, c1, c2, c3, c4]) = _ := hp
    have hq2 : List.take (Try.prog.cellsOf 9) (List.drop 4 [c0, c1, c2, c3, c4]) = _ := hq
    rw [size_int] at ha2 hb2 hc2
    rw [size_str] at hp2 hq2
    obtain rfl : c0 = _ := List.singleton_inj.1 ha2
    obtain rfl : c1 = _ := List.singleton_inj.1 hb2
    obtain rfl : c2 = _ := List.singleton_inj.1 hc2
    obtain rfl : c3 = _ := List.singleton_inj.1 hp2
    obtain rfl : c4 = _ := List.singleton_inj.1 hq2
    exact ⟨⟨a, b, c, p, q⟩, rfl, ⟨wp, wq⟩, ⟨⟨wa, wb⟩, wc⟩⟩
def Cu.wide (c : Cu) : Prop := c.v.wide ∧ c.v.i64 ∧ (-9223372036854775808 ≤ c.e ∧ c.e ≤ 9223372036854775807)
set_option maxRecDepth 100000 in
theorem cells_cut {fuel : Nat} {cs : List Value} {x : DataW H × List MemPlace} (h : DataW.trod enc Try.prog W 0 (fun _ => true) true fuel 35 cs = some x) : ∃ c : Cu, cs = (cutV c).cells.toList ∧ c.wide := by
  obtain ⟨xs, n, _, _, hl, hxl, hg⟩ := DataW.trod_struct Try.underlying35 h
  rw [size_cut] at hl
  match cs, hl with
  | [c0, c1, c2, c3, c4, c5, c6], _ =>
    have g : ∀ i, i < 3 → ∃ y, xs[i]? = some y := fun i hi => ⟨_, List.getElem?_eq_getElem (by rw [hxl]; exact hi)⟩
    obtain ⟨y0, e0⟩ := g 0 (by omega)
    obtain ⟨y1, e1⟩ := g 1 (by omega)
    obtain ⟨y2, e2⟩ := g 2 (by omega)
    obtain ⟨a, ha, wa⟩ := cells_int ((hg 0 _ rfl).trans e0)
    obtain ⟨v, hv, w1, w2⟩ := cells_ver ((hg 1 _ rfl).trans e1)
    obtain ⟨b, hb⟩ := cells_bool ((hg 2 _ rfl).trans e2)
    have ha2 : List.take (Try.prog.cellsOf 3) (List.drop 0 [c0, c1, c2, c3, c4, c5, c6]) = _ := ha
    have hv2 : List.take (Try.prog.cellsOf 24) (List.drop 1 [c0, c1, c2, c3, c4, c5, c6]) = _ := hv
    have hb2 : List.take (Try.prog.cellsOf 4) (List.drop 6 [c0, c1, c2, c3, c4, c5, c6]) = _ := hb
    rw [size_int] at ha2
    rw [size_ver] at hv2
    rw [size_bool] at hb2
    obtain rfl : c0 = _ := List.singleton_inj.1 ha2
    obtain rfl : c6 = _ := List.singleton_inj.1 hb2
    have hv3 : [c1, c2, c3, c4, c5] = (verV v).cells.toList := hv2
    refine ⟨⟨a, v, b⟩, ?_, w1, w2, wa⟩
    show .int .i64 a :: ([c1, c2, c3, c4, c5] ++ [.bool b]) = _
    rw [hv3]; rfl
def Sp.wide (s : Sp) : Prop := s.lo.wide ∧ s.hi.wide
set_option maxRecDepth 100000 in
theorem cells_span {fuel : Nat} {cs : List Value} {x : DataW H × List MemPlace} (h : DataW.trod enc Try.prog W 0 (fun _ => true) true fuel 37 cs = some x) : ∃ s : Sp, cs = (spanV s).cells.toList ∧ s.wide := by
  obtain ⟨xs, n, _, _, hl, hxl, hg⟩ := DataW.trod_struct Try.underlying37 h
  rw [size_span] at hl
  have g : ∀ i, i < 2 → ∃ y, xs[i]? = some y := fun i hi => ⟨_, List.getElem?_eq_getElem (by rw [hxl]; exact hi)⟩
  obtain ⟨y0, e0⟩ := g 0 (by omega)
  obtain ⟨y1, e1⟩ := g 1 (by omega)
  obtain ⟨a, ha, wa⟩ := cells_cut ((hg 0 _ rfl).trans e0)
  obtain ⟨b, hb, wb⟩ := cells_cut ((hg 1 _ rfl).trans e1)
  have ha2 : List.take (Try.prog.cellsOf 35) (List.drop 0 cs) = _ := ha
  have hb2 : List.take (Try.prog.cellsOf 35) (List.drop 7 cs) = _ := hb
  rw [size_cut] at ha2 hb2
  refine ⟨⟨a, b⟩, ?_, wa, wb⟩
  have e : cs = List.take 7 (List.drop 0 cs) ++ List.take 7 (List.drop 7 cs) := by
    rw [List.drop_zero, List.take_of_length_le (show (List.drop 7 cs).length ≤ 7 by rw [List.length_drop, hl]; decide), List.take_append_drop]
  rw [e, ha2, hb2]; rfl
theorem cells_back {v : Value} {cs : Array Value} {l : List Value} (h : v = .agg cs) (e : v.cells.toList = l) : v = .agg l.toArray := by
  subst h
  have : cs.toList = l := e
  rw [← this]
theorem open_verV {base : Nat} {v : Value} {d : DataW H} {ps : List MemPlace} (hval : Value.okWide Try.prog W .any base 24 v) (h : DataW.Trod enc Try.prog W 0 (fun _ => true) true 24 v d ps) : ∃ u : Ver, v = verV u ∧ u.wide ∧ u.i64 := by
  obtain ⟨cs, hc, _⟩ := okWide_struct Try.underlying24 hval
  obtain ⟨fuel, hf⟩ := h
  obtain ⟨u, e, w1, w2⟩ := cells_ver hf
  exact ⟨u, (cells_back hc e).trans rfl, w1, w2⟩
theorem open_cutV {base : Nat} {v : Value} {d : DataW H} {ps : List MemPlace} (hval : Value.okWide Try.prog W .any base 35 v) (h : DataW.Trod enc Try.prog W 0 (fun _ => true) true 35 v d ps) : ∃ u : Cu, v = cutV u ∧ u.wide := by
  obtain ⟨cs, hc, _⟩ := okWide_struct Try.underlying35 hval
  obtain ⟨fuel, hf⟩ := h
  obtain ⟨u, e, w1⟩ := cells_cut hf
  exact ⟨u, (cells_back hc e).trans rfl, w1⟩
theorem open_spanV {base : Nat} {v : Value} {d : DataW H} {ps : List MemPlace} (hval : Value.okWide Try.prog W .any base 37 v) (h : DataW.Trod enc Try.prog W 0 (fun _ => true) true 37 v d ps) : ∃ u : Sp, v = spanV u ∧ u.wide := by
  obtain ⟨cs, hc, _⟩ := okWide_struct Try.underlying37 hval
  obtain ⟨fuel, hf⟩ := h
  obtain ⟨u, e, w1⟩ := cells_span hf
  exact ⟨u, (cells_back hc e).trans rfl, w1⟩
end
end Go.Proofs.Ytmlecnomdamgnaa
end

section
/-
  A parameter that is a slice of spans: it reads as a list, out of the row's own conditions.
-/
namespace Go.Proofs.Ytmlecnomdamgnaa
open Go.ChangeShapes Go.WideShapes Go.ChangeAt Go.RowKit Go.Deep
set_option maxRecDepth 100000
set_option linter.unusedVariables false
set_option linter.unusedSimpArgs false

theorem list_of {α : Type} {p : Nat → α → Prop} : ∀ (n : Nat), (∀ i, i < n → ∃ x, p i x) → ∃ l : List α, l.length = n ∧ ∀ i (h : i < l.length), p i l[i]
  | 0, _ => ⟨[], rfl, fun i h => absurd h (Nat.not_lt_zero _)⟩
  | n + 1, h => by
    obtain ⟨l, hl, hp⟩ := list_of n fun i hi => h i (Nat.lt_succ_of_lt hi)
    obtain ⟨x, hx⟩ := h n (Nat.lt_succ_self n)
    refine ⟨l ++ [x], by simp [hl], fun i hi => ?_⟩
    by_cases h1 : i < l.length
    · rw [List.getElem_append_left h1]; exact hp i h1
    · have : i = n := by simp at hi; omega
      subst this
      rw [List.getElem_append_right (by omega)]
      simpa [hl] using hx
theorem cell_spot {w : World} {a : Addr} {v : Value} (h : w.cell? a = some v) : a.spot = none := by
  unfold World.cell? at h
  split at h
  · split at h
    · cases h
    · rename_i hs; simpa using hs
  · cases h
theorem addr_at {a : Addr} (h : a.spot = none) (k : Nat) : a.add k = ⟨a.block, a.off + k, none⟩ := by
  obtain ⟨b, o, s⟩ := a
  obtain rfl : s = none := h
  exact add_off b o k
theorem open_spans {H : Type} {enc : TypeId × Value → H} {W : World} {base : Nat} {v : Value} {d : DataW H} {ps : List MemPlace} (hval : Value.okWide Try.prog W .any base 22 v)
    (h : DataW.Trod enc Try.prog W 0 (fun _ => true) true 22 v d ps) : ∃ (A : Option Addr) (cap : Nat) (l : List Sp), v = .slice A l.length cap ∧ Reads spanC W W.heap.size A l ∧ l.length ≤ cap ∧ cap ≤ maxLen ∧ ∀ s ∈ l, s.wide := by
  obtain ⟨A, len, cap, rfl⟩ := okWide_slice Try.underlying22 hval
  obtain ⟨fuel, hf⟩ := h
  rcases DataW.trod_slice Try.underlying22 hf with ⟨hcs, _⟩ | ⟨a, len', cap', elems, rest, n, _, hcs, _, hb, hl, hm, hlen, hel, _, _⟩
  · simp [Value.cells] at hcs
    obtain ⟨rfl, rfl, rfl⟩ := hcs
    exact ⟨none, 0, [], rfl, fun h => by simp at h, Nat.le_refl _, Nat.zero_le _, fun s hs => by simp at hs⟩
  · simp [Value.cells] at hcs
    obtain ⟨rfl, rfl, rfl⟩ := hcs
    rw [size_span] at hel
    obtain ⟨l, hll, hp⟩ := list_of (p := fun i (s : Sp) => s.wide ∧ W.cells? 0 (a.add (i * 14)) 14 = some (spanC s)) len fun i hi => by
      have h1 := hel i hi
      rw [List.getElem?_eq_getElem (by omega)] at h1
      obtain ⟨cs, e1, e2⟩ := Option.bind_eq_some_iff.1 h1
      obtain ⟨s, e3, hw⟩ := cells_span e2
      exact ⟨s, hw, by rw [e1, e3]; rfl⟩
    refine ⟨some a, cap, l, by rw [hll], fun h0 => ?_, by omega, hm, fun s hs => ?_⟩
    · have c0 := (hp 0 h0).2
      have hc : ∀ i (hi : i < l.length) j u, (spanC l[i])[j]? = some u → W.cell? ((a.add (i * 14)).add j) = some u := fun i hi j u hj => by
        obtain ⟨_, hn, hx⟩ := World.cells?_some (hp i hi).2
        have hj14 : j < 14 := by have := (List.getElem?_eq_some_iff.1 hj).1; rwa [spanC_len] at this
        first | rw [hx j hj14, hj] | (have := hx j hj14; rw [this]; exact hj)
      have s0 : (spanC l[0])[0]? = some (.int .i64 l[0].lo.e) := rfl
      have sp : a.spot = none := by
        have := cell_spot (hc 0 h0 0 _ s0)
        simpa [Addr.add] using this
      refine ⟨a.block, a.off, ?_, ?_, fun k u hk => ?_⟩
      · obtain ⟨b, o, s⟩ := a
        obtain rfl : s = none := sp
        rfl
      · have := World.cells?_block c0 (by decide)
        rwa [addr_at sp] at this
      · have hkl : k < l.length * 14 := by have := (List.getElem?_eq_some_iff.1 hk).1; rwa [flat_len spanC_len] at this
        have hi : k / 14 < l.length := by omega
        have e : k = k / 14 * 14 + k % 14 := by omega
        have hm14 : k % 14 < 14 := Nat.mod_lt _ (by decide)
        have h2 := flat_at spanC_len l (k / 14) hi
        have h3 : (spanC l[k / 14])[k % 14]? = some u := by
          rw [← h2, List.getElem?_take, if_pos hm14, List.getElem?_drop, ← e]; exact hk
        have := hc (k / 14) hi (k % 14) u h3
        rw [addr_at sp, add_off, show a.off + k / 14 * 14 + k % 14 = a.off + k from by omega] at this
        exact this
    · obtain ⟨i, hi, rfl⟩ := List.mem_iff_getElem.1 hs
      exact (hp i hi).1
end Go.Proofs.Ytmlecnomdamgnaa
end

section
/-
  s[i:j] of a slice; its elements as a slice that came in. No condition of their own.
-/
namespace Go.Proofs.Ytmlecnomdamgnaa
open Go.RowKit
set_option maxRecDepth 100000
set_option linter.unusedVariables false
set_option linter.unusedSimpArgs false
theorem run_sl2 {P : Program} {ρ : Operand → Value} {o : Oper} {t e : TypeId} {x y z : Operand} {A : Option Addr} {b off n c sz : Nat} {k q : IntKind} {i j : Int} (ho : o.op = .slice t x (some y) (some z) none) (hx : ρ x = .slice A n c) (hA : A = some ⟨b, off, none⟩) (hy : ρ y = .int k i) (hz : ρ z = .int q j)
    (hu : P.underlying t = some (.slice e)) (hs : (P.info? e).map (·.size) = some sz) (h0 : 0 ≤ i) (h1 : i ≤ j) (h2 : j ≤ c) (w : World) : (execOp ρ o).run P w = .ok (.value (.slice (some ⟨b, off + (if c = i.toNat then 0 else i.toNat * sz), none⟩) (j.toNat - i.toNat) (c - i.toNat))) w := by
  subst hA
  cases he : P.info? e with
  | none => rw [he] at hs; cases hs
  | some u =>
    rw [he] at hs
    obtain rfl := Option.some.inj hs
    have h3 : 0 ≤ j := Int.le_trans h0 h1
    unfold execOp
    by_cases hc : c = i.toNat
    · simp [ho, hx, hy, hz, Instr.sliceAt, Instr.slice, Instr.sliceBounds, Instr.sliceBound, Sem.run_bind, asIntOf, run_underlying hu, h0, h1, h2, h3, sizeOf, typeInfo, he, add_off, hc]
      try (rw [if_pos (by omega), if_pos (by omega)])
    · simp [ho, hx, hy, hz, Instr.sliceAt, Instr.slice, Instr.sliceBounds, Instr.sliceBound, Sem.run_bind, asIntOf, run_underlying hu, h0, h1, h2, h3, sizeOf, typeInfo, he, add_off, hc]
      try (first | omega | (rw [if_pos (by omega), if_pos (by omega)]))
theorem Reads.one {α : Type} {g : α → List Value} {sz : Nat} (hg : ∀ x, (g x).length = sz) {w : World} {B b off c k : Nat} {A : Option Addr} {l : List α} (h : Reads g w B A l) (hA : A = some ⟨b, off, none⟩) (hk : k < l.length) (hc : l.length ≤ c) {i : Int} (hi : i.toNat = k) : Reads g w B (some ⟨b, off + (if c = i.toNat then 0 else i.toNat * sz), none⟩) [l[k]] := fun h0 => by
  subst hA hi
  obtain ⟨b', off', e, hlt, hcell⟩ := h (by omega)
  obtain ⟨rfl, rfl⟩ : b = b' ∧ off = off' := by simp at e; exact e
  refine ⟨b, _, rfl, hlt, fun j u hj => ?_⟩
  rw [if_neg (by omega)]
  have hj2 : (g l[i.toNat])[j]? = some u := by simpa using hj
  have hjs : j < sz := by have := (List.getElem?_eq_some_iff.1 hj2).1; rwa [hg] at this
  have h3 := flat_at hg l i.toNat hk
  rw [← h3, List.getElem?_take, if_pos hjs, List.getElem?_drop] at hj2
  have := hcell _ u hj2
  rw [show off + i.toNat * sz + j = off + (i.toNat * sz + j) from by omega]
  exact this
end Go.Proofs.Ytmlecnomdamgnaa
end

section
/-
  A load out of a slice that reads as a list. No condition of its own.
-/
namespace Go.Proofs.Ytmlecnomdamgnaa
open Go.RowKit
set_option linter.unusedVariables false
theorem Reads.load {P : Program} {α : Type} {g : α → List Value} {sz : Nat} (hg : ∀ x, (g x).length = sz) {ty : TypeId} {w : World} {B b off o : Nat} {A : Option Addr} {l : List α} (h : Reads g w B A l) (hA : A = some ⟨b, off, none⟩) (k fo : Nat) (hk : k < l.length) (ho : o = off + k * sz + fo) (v : Value)
    (hr : readAt P ty ((g l[k]).drop fo).toArray 0 = some v) : (loadVar ty ⟨b, o, none⟩).run P w = .ok v w := by
  subst hA
  obtain ⟨b', off', e, hlt, hcell⟩ := h (by omega)
  obtain ⟨rfl, rfl⟩ : b = b' ∧ off = off' := by simp at e; exact e
  exact elem_load hg hcell k fo hk ho v hr
end Go.Proofs.Ytmlecnomdamgnaa
end

section
/-
  A parameter that is a slice of ints: it reads as a list, out of the row's own conditions.
-/
namespace Go.Proofs.Ytmlecnomdamgnaa
open Go.ChangeShapes Go.WideShapes Go.ChangeAt Go.RowKit

set_option maxRecDepth 100000 in
theorem open_nums {H : Type} {enc : TypeId × Value → H} {W : World} {base : Nat} {v : Value} {d : DataW H} {ps : List MemPlace} (hval : Value.okWide Try.prog W .any base 31 v)
    (h : DataW.Trod enc Try.prog W 0 (fun _ => true) true 31 v d ps) : ∃ l : List Int, ReadsI W W.heap.size v l ∧ l.length ≤ maxLen := by
  obtain ⟨A, len, cap, rfl⟩ := okWide_slice Try.underlying31 hval
  obtain ⟨fuel, hf⟩ := h
  rcases open_ints Try.underlying31 Try.underlying3 (by kernel_rfl) hf with ⟨hcs, _⟩ | ⟨a, len', cap', zs, hcs, _, hl, hm, hz, _, hcell, _⟩
  · simp [Value.cells] at hcs
    obtain ⟨rfl, rfl, rfl⟩ := hcs
    exact ⟨[], ⟨none, 0, rfl, fun h => by cases h⟩, by simp⟩
  · simp [Value.cells] at hcs
    obtain ⟨rfl, rfl, rfl⟩ := hcs
    simp only [if_true] at hz
    have hlen : (zs.take len).length = len := by rw [List.length_take]; omega
    refine ⟨zs.take len, ⟨some a, cap, by rw [hlen], fun h0 => ⟨a, rfl, ?_, fun j hj => ?_⟩⟩, by rw [hlen]; omega⟩
    · have := cell_lt (hcell 0 (by omega))
      rwa [add_block] at this
    · have hj2 : j < zs.length := by omega
      rw [hcell j hj2, List.getElem_take]
      simp only [List.getD, List.getElem?_eq_getElem hj2, Option.getD_some]
end Go.Proofs.Ytmlecnomdamgnaa
end
