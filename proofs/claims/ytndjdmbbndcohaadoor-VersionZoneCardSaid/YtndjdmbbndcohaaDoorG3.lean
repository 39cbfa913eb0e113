/-
  linchpinlaw0's Version and Cut at any place: the version, the cut that the list's numbers name.
-/
import Derived.Test.YtndjdmbbndcohaaDoorRx2
import Derived.Test.YtndjdmbbndcohaaDoorSeq
import Derived.Test.YtndjdmbbndcohaaDoorGen0
namespace Go.Proofs.YtndjdmbbndcohaaDoor
open Go.RowKit
set_option linter.unusedSimpArgs false
set_option maxRecDepth 100000
set_option linter.unusedVariables false
set_option maxHeartbeats 2000000

theorem from_in {W : World} {v : Value} {l : List Int} (hv : ReadsI W W.heap.size v l) (hl : l.length ≤ 9223372036854775807) (i : Nat) (n : Int) (hi : i ≤ 1000000) (hn : 0 < n) (hn2 : n ≤ 1000000) {k : Int} (hk : plc (atL l i) n = k) :
    ∀ w, Below W.heap.size W w → Calls Tryd.prog 9 #[v, .int .i64 i, .int .i64 n] w fun e w' => e = .returned (.int .i64 k) ∧ Below w.heap.size w w' := fun w hb => by
  have h := from_any v l i n w ((hv.below hb).more hb.size) hl hi hn hn2
  rw [hk] at h
  exact h.mono fun _ _ ⟨e1, e2⟩ => ⟨e1, e2 ▸ Below.refl _ _⟩
theorem plc_nat' (v : Int) (n : Nat) (hn : 0 < n) : ∃ k : Nat, plc v n = (k : Int) ∧ k < n := by
  have h := plc_in v n (by omega)
  exact ⟨(plc v n).toNat, (Int.toNat_of_nonneg h.1).symm, by omega⟩
theorem rd_num : ∀ (k : Nat), k < 8 → readAt Tryd.prog 3 #[.int .i64 0, .int .i64 1, .int .i64 2, .int .i64 3, .int .i64 0, .int .i64 1, .int .i64 10, .int .i64 9999] k = some (.int .i64 (numT k))
  | 0, _ => by kernel_rfl
  | 1, _ => by kernel_rfl
  | 2, _ => by kernel_rfl
  | 3, _ => by kernel_rfl
  | 4, _ => by kernel_rfl
  | 5, _ => by kernel_rfl
  | 6, _ => by kernel_rfl
  | 7, _ => by kernel_rfl
theorem rd_pre : ∀ (k : Nat), k < 14 → readAt Tryd.prog 9 #[.string ⟨#[]⟩, .string ⟨#[]⟩, .string ⟨#[]⟩, .string ⟨#[]⟩, .string ⟨#[48]⟩, .string ⟨#[49]⟩, .string ⟨#[50]⟩, .string ⟨#[49, 49]⟩, .string ⟨#[97]⟩, .string ⟨#[97, 46, 49]⟩, .string ⟨#[97, 46, 98]⟩, .string ⟨#[98]⟩, .string ⟨#[48, 46, 48]⟩, .string ⟨#[114, 99, 46, 49]⟩] k = some (.string (mkS (preT14 k)))
  | 0, _ => by kernel_rfl
  | 1, _ => by kernel_rfl
  | 2, _ => by kernel_rfl
  | 3, _ => by kernel_rfl
  | 4, _ => by kernel_rfl
  | 5, _ => by kernel_rfl
  | 6, _ => by kernel_rfl
  | 7, _ => by kernel_rfl
  | 8, _ => by kernel_rfl
  | 9, _ => by kernel_rfl
  | 10, _ => by kernel_rfl
  | 11, _ => by kernel_rfl
  | 12, _ => by kernel_rfl
  | 13, _ => by kernel_rfl
theorem rd_bld : ∀ (k : Nat), k < 6 → readAt Tryd.prog 9 #[.string ⟨#[]⟩, .string ⟨#[]⟩, .string ⟨#[]⟩, .string ⟨#[]⟩, .string ⟨#[48, 48, 55]⟩, .string ⟨#[120, 46, 49]⟩] k = some (.string (mkS (bldT k)))
  | 0, _ => by kernel_rfl
  | 1, _ => by kernel_rfl
  | 2, _ => by kernel_rfl
  | 3, _ => by kernel_rfl
  | 4, _ => by kernel_rfl
  | 5, _ => by kernel_rfl

theorem gen_any (v : Value) (l : List Int) (i : Nat) (W : World) (hv : ReadsI W W.heap.size v l) (hl : l.length ≤ 9223372036854775807) (hi : i ≤ 100000) :
    Calls Tryd.prog 5 #[v, .int .i64 (i : Int)] W fun e w' => e = .returned (verV (genV l i)) ∧ Below W.heap.size W w' := by
  obtain ⟨k0, e0, q0⟩ := plc_nat' (atL l i) 8 (by omega)
  have f0 := from_in hv hl i 8 (by omega) (by omega) (by omega) e0
  obtain ⟨k1, e1, q1⟩ := plc_nat' (atL l (i + 1)) 8 (by omega)
  have f1 := from_in hv hl (i + 1) 8 (by omega) (by omega) (by omega) e1
  obtain ⟨k2, e2, q2⟩ := plc_nat' (atL l (i + 2)) 8 (by omega)
  have f2 := from_in hv hl (i + 2) 8 (by omega) (by omega) (by omega) e2
  obtain ⟨k3, e3, q3⟩ := plc_nat' (atL l (i + 3)) 14 (by omega)
  have f3 := from_in hv hl (i + 3) 14 (by omega) (by omega) (by omega) e3
  obtain ⟨k4, e4, q4⟩ := plc_nat' (atL l (i + 4)) 6 (by omega)
  have f4 := from_in hv hl (i + 4) 6 (by omega) (by omega) (by omega) e4
  have hg : genV l i = ⟨numT k0, numT k1, numT k2, preT14 k3, bldT k4⟩ := by unfold genV; rw [show plc (atL l i) 8 = _ from e0, show plc (atL l (i + 1)) 8 = _ from e1, show plc (atL l (i + 2)) 8 = _ from e2, show plc (atL l (i + 3)) 14 = _ from e3, show plc (atL l (i + 4)) 6 = _ from e4]; rfl
  rw [hg]
  refine calls_ok (n := 41) Tryd.func5 rfl (by kernel_rfl) (by kernel_rfl) ?_
  refine ok_seq ?_
  refine ok_region ?_
  refine s_alloc_at (.agg #[.int .i64 0, .int .i64 0, .int .i64 0, .string ⟨#[]⟩, .string ⟨#[]⟩]) (by kernel_rfl) rfl (by kernel_rfl) (fun b1 => ?_)
  refine s_nil ?_
  refine fin_seq ?_
  refine ok_seq ?_
  refine ok_region ?_
  refine s_val (.agg #[.int .i64 0, .int .i64 1, .int .i64 2, .int .i64 3, .int .i64 0, .int .i64 1, .int .i64 10, .int .i64 9999]) (by kernel_rfl) (fun _ => by kernel_rfl) ?_
  refine s_alloc_at (.agg #[.int .i64 0, .int .i64 0, .int .i64 0, .int .i64 0, .int .i64 0, .int .i64 0, .int .i64 0, .int .i64 0]) (by kernel_rfl) rfl (by kernel_rfl) (fun b2 => ?_)
  refine s_store_at 0 ⟨b2, #[.int .i64 0, .int .i64 0, .int .i64 0, .int .i64 0, .int .i64 0, .int .i64 0, .int .i64 0, .int .i64 0], 30⟩ (off := 0) (.agg #[.int .i64 0, .int .i64 1, .int .i64 2, .int .i64 3, .int .i64 0, .int .i64 1, .int .i64 10, .int .i64 9999]) (by kernel_rfl) rfl rfl (by kernel_rfl) (by kernel_rfl) (by kernel_rfl) (by kernel_rfl) (by kernel_rfl) ?_
  refine s_nil ?_
  refine fin_seq ?_
  refine ok_seq ?_
  refine ok_region ?_
  refine s_val (.agg #[.string ⟨#[]⟩, .string ⟨#[]⟩, .string ⟨#[]⟩, .string ⟨#[]⟩, .string ⟨#[48]⟩, .string ⟨#[49]⟩, .string ⟨#[50]⟩, .string ⟨#[49, 49]⟩, .string ⟨#[97]⟩, .string ⟨#[97, 46, 49]⟩, .string ⟨#[97, 46, 98]⟩, .string ⟨#[98]⟩, .string ⟨#[48, 46, 48]⟩, .string ⟨#[114, 99, 46, 49]⟩]) (by kernel_rfl) (fun _ => by kernel_rfl) ?_
  refine s_alloc_at (.agg #[.string ⟨#[]⟩, .string ⟨#[]⟩, .string ⟨#[]⟩, .string ⟨#[]⟩, .string ⟨#[]⟩, .string ⟨#[]⟩, .string ⟨#[]⟩, .string ⟨#[]⟩, .string ⟨#[]⟩, .string ⟨#[]⟩, .string ⟨#[]⟩, .string ⟨#[]⟩, .string ⟨#[]⟩, .string ⟨#[]⟩]) (by kernel_rfl) rfl (by kernel_rfl) (fun b3 => ?_)
  refine s_store_at 0 ⟨b3, #[.string ⟨#[]⟩, .string ⟨#[]⟩, .string ⟨#[]⟩, .string ⟨#[]⟩, .string ⟨#[]⟩, .string ⟨#[]⟩, .string ⟨#[]⟩, .string ⟨#[]⟩, .string ⟨#[]⟩, .string ⟨#[]⟩, .string ⟨#[]⟩, .string ⟨#[]⟩, .string ⟨#[]⟩, .string ⟨#[]⟩], 31⟩ (off := 0) (.agg #[.string ⟨#[]⟩, .string ⟨#[]⟩, .string ⟨#[]⟩, .string ⟨#[]⟩, .string ⟨#[48]⟩, .string ⟨#[49]⟩, .string ⟨#[50]⟩, .string ⟨#[49, 49]⟩, .string ⟨#[97]⟩, .string ⟨#[97, 46, 49]⟩, .string ⟨#[97, 46, 98]⟩, .string ⟨#[98]⟩, .string ⟨#[48, 46, 48]⟩, .string ⟨#[114, 99, 46, 49]⟩]) (by kernel_rfl) rfl rfl (by kernel_rfl) (by kernel_rfl) (by kernel_rfl) (by kernel_rfl) (by kernel_rfl) ?_
  refine s_nil ?_
  refine fin_seq ?_
  refine ok_seq ?_
  refine ok_region ?_
  refine s_val (.agg #[.string ⟨#[]⟩, .string ⟨#[]⟩, .string ⟨#[]⟩, .string ⟨#[]⟩, .string ⟨#[48, 48, 55]⟩, .string ⟨#[120, 46, 49]⟩]) (by kernel_rfl) (fun _ => by kernel_rfl) ?_
  refine s_alloc_at (.agg #[.string ⟨#[]⟩, .string ⟨#[]⟩, .string ⟨#[]⟩, .string ⟨#[]⟩, .string ⟨#[]⟩, .string ⟨#[]⟩]) (by kernel_rfl) rfl (by kernel_rfl) (fun b4 => ?_)
  refine s_store_at 0 ⟨b4, #[.string ⟨#[]⟩, .string ⟨#[]⟩, .string ⟨#[]⟩, .string ⟨#[]⟩, .string ⟨#[]⟩, .string ⟨#[]⟩], 32⟩ (off := 0) (.agg #[.string ⟨#[]⟩, .string ⟨#[]⟩, .string ⟨#[]⟩, .string ⟨#[]⟩, .string ⟨#[48, 48, 55]⟩, .string ⟨#[120, 46, 49]⟩]) (by kernel_rfl) rfl rfl (by kernel_rfl) (by kernel_rfl) (by kernel_rfl) (by kernel_rfl) (by kernel_rfl) ?_
  refine s_nil ?_
  refine fin_seq ?_
  refine ok_seq ?_
  refine ok_drawt 30 (by kernel_rfl) (by kernel_rfl) (by kernel_rfl) ?_
  simp only [List.take_succ_cons, List.take_zero, List.drop_succ_cons, List.drop_zero]
  refine q_val (v) (by kernel_rfl) (fun _ => by kernel_rfl) ?_
  refine q_val (.int .i64 ((i : Nat) : Int)) (by kernel_rfl) (fun _ => by kernel_rfl) ?_
  refine q_call (k := 9) (args := #[v, .int .i64 ((i : Nat) : Int), .int .i64 8]) (.int .i64 (k0 : Int)) (by kernel_rfl) (fun _ => by kernel_rfl) (fun w hO => f0 w hO.below) ?_
  refine q_val (.pointer (some ⟨b2, k0, none⟩)) (by kernel_rfl) (run_ixarr (b := b2) (off := 0) (k := .i64) (j := (k0 : Int)) (n := 8) (e := 3) (sz := 1) rfl (by kernel_rfl) (by kernel_rfl) (by kernel_rfl) (by kernel_rfl) (by omega) (by omega) (by omega)) ?_
  refine q_load 2 ⟨b2, #[.int .i64 0, .int .i64 1, .int .i64 2, .int .i64 3, .int .i64 0, .int .i64 1, .int .i64 10, .int .i64 9999], 30⟩ (off := k0) (.int .i64 (numT k0)) (by kernel_rfl) rfl (by kernel_rfl) (by kernel_rfl) (rd_num k0 q0) ?_
  refine q_val (v) (by kernel_rfl) (fun _ => by kernel_rfl) ?_
  refine q_val (.int .i64 ((i : Nat) : Int)) (by kernel_rfl) (fun _ => by kernel_rfl) ?_
  refine q_sum (k := .i64) (((i + 1 : Nat) : Int)) (by kernel_rfl) (fun _ => by kernel_rfl) (IntWalk.i64_in _ (by omega)) ?_
  refine q_call (k := 9) (args := #[v, .int .i64 ((i + 1 : Nat) : Int), .int .i64 8]) (.int .i64 (k1 : Int)) (by kernel_rfl) (fun _ => by kernel_rfl) (fun w hO => f1 w hO.below) ?_
  refine q_val (.pointer (some ⟨b2, k1, none⟩)) (by kernel_rfl) (run_ixarr (b := b2) (off := 0) (k := .i64) (j := (k1 : Int)) (n := 8) (e := 3) (sz := 1) rfl (by kernel_rfl) (by kernel_rfl) (by kernel_rfl) (by kernel_rfl) (by omega) (by omega) (by omega)) ?_
  refine q_load 2 ⟨b2, #[.int .i64 0, .int .i64 1, .int .i64 2, .int .i64 3, .int .i64 0, .int .i64 1, .int .i64 10, .int .i64 9999], 30⟩ (off := k1) (.int .i64 (numT k1)) (by kernel_rfl) rfl (by kernel_rfl) (by kernel_rfl) (rd_num k1 q1) ?_
  refine q_val (v) (by kernel_rfl) (fun _ => by kernel_rfl) ?_
  refine q_val (.int .i64 ((i : Nat) : Int)) (by kernel_rfl) (fun _ => by kernel_rfl) ?_
  refine q_sum (k := .i64) (((i + 2 : Nat) : Int)) (by kernel_rfl) (fun _ => by kernel_rfl) (IntWalk.i64_in _ (by omega)) ?_
  refine q_call (k := 9) (args := #[v, .int .i64 ((i + 2 : Nat) : Int), .int .i64 8]) (.int .i64 (k2 : Int)) (by kernel_rfl) (fun _ => by kernel_rfl) (fun w hO => f2 w hO.below) ?_
  refine q_val (.pointer (some ⟨b2, k2, none⟩)) (by kernel_rfl) (run_ixarr (b := b2) (off := 0) (k := .i64) (j := (k2 : Int)) (n := 8) (e := 3) (sz := 1) rfl (by kernel_rfl) (by kernel_rfl) (by kernel_rfl) (by kernel_rfl) (by omega) (by omega) (by omega)) ?_
  refine q_load 2 ⟨b2, #[.int .i64 0, .int .i64 1, .int .i64 2, .int .i64 3, .int .i64 0, .int .i64 1, .int .i64 10, .int .i64 9999], 30⟩ (off := k2) (.int .i64 (numT k2)) (by kernel_rfl) rfl (by kernel_rfl) (by kernel_rfl) (rd_num k2 q2) ?_
  refine q_val (v) (by kernel_rfl) (fun _ => by kernel_rfl) ?_
  refine q_val (.int .i64 ((i : Nat) : Int)) (by kernel_rfl) (fun _ => by kernel_rfl) ?_
  refine q_sum (k := .i64) (((i + 3 : Nat) : Int)) (by kernel_rfl) (fun _ => by kernel_rfl) (IntWalk.i64_in _ (by omega)) ?_
  refine q_call (k := 9) (args := #[v, .int .i64 ((i + 3 : Nat) : Int), .int .i64 14]) (.int .i64 (k3 : Int)) (by kernel_rfl) (fun _ => by kernel_rfl) (fun w hO => f3 w hO.below) ?_
  refine q_val (.pointer (some ⟨b3, k3, none⟩)) (by kernel_rfl) (run_ixarr (b := b3) (off := 0) (k := .i64) (j := (k3 : Int)) (n := 14) (e := 9) (sz := 1) rfl (by kernel_rfl) (by kernel_rfl) (by kernel_rfl) (by kernel_rfl) (by omega) (by omega) (by omega)) ?_
  refine q_load 1 ⟨b3, #[.string ⟨#[]⟩, .string ⟨#[]⟩, .string ⟨#[]⟩, .string ⟨#[]⟩, .string ⟨#[48]⟩, .string ⟨#[49]⟩, .string ⟨#[50]⟩, .string ⟨#[49, 49]⟩, .string ⟨#[97]⟩, .string ⟨#[97, 46, 49]⟩, .string ⟨#[97, 46, 98]⟩, .string ⟨#[98]⟩, .string ⟨#[48, 46, 48]⟩, .string ⟨#[114, 99, 46, 49]⟩], 31⟩ (off := k3) (.string (mkS (preT14 k3))) (by kernel_rfl) rfl (by kernel_rfl) (by kernel_rfl) (rd_pre k3 q3) ?_
  refine q_val (v) (by kernel_rfl) (fun _ => by kernel_rfl) ?_
  refine q_val (.int .i64 ((i : Nat) : Int)) (by kernel_rfl) (fun _ => by kernel_rfl) ?_
  refine q_sum (k := .i64) (((i + 4 : Nat) : Int)) (by kernel_rfl) (fun _ => by kernel_rfl) (IntWalk.i64_in _ (by omega)) ?_
  refine q_call (k := 9) (args := #[v, .int .i64 ((i + 4 : Nat) : Int), .int .i64 6]) (.int .i64 (k4 : Int)) (by kernel_rfl) (fun _ => by kernel_rfl) (fun w hO => f4 w hO.below) ?_
  refine q_val (.pointer (some ⟨b4, k4, none⟩)) (by kernel_rfl) (run_ixarr (b := b4) (off := 0) (k := .i64) (j := (k4 : Int)) (n := 6) (e := 9) (sz := 1) rfl (by kernel_rfl) (by kernel_rfl) (by kernel_rfl) (by kernel_rfl) (by omega) (by omega) (by omega)) ?_
  refine q_load 0 ⟨b4, #[.string ⟨#[]⟩, .string ⟨#[]⟩, .string ⟨#[]⟩, .string ⟨#[]⟩, .string ⟨#[48, 48, 55]⟩, .string ⟨#[120, 46, 49]⟩], 32⟩ (off := k4) (.string (mkS (bldT k4))) (by kernel_rfl) rfl (by kernel_rfl) (by kernel_rfl) (rd_bld k4 q4) ?_
  refine q_val (.agg #[.int .i64 (numT k0), .int .i64 (numT k1), .int .i64 (numT k2), .string (mkS (preT14 k3)), .string (mkS (bldT k4))]) (by kernel_rfl) (fun _ => by kernel_rfl) ?_
  refine q_nil ?_
  refine s_store_at 3 ⟨b1, #[.int .i64 0, .int .i64 0, .int .i64 0, .string ⟨#[]⟩, .string ⟨#[]⟩], 24⟩ (off := 0) (.agg #[.int .i64 (numT k0), .int .i64 (numT k1), .int .i64 (numT k2), .string (mkS (preT14 k3)), .string (mkS (bldT k4))]) (by kernel_rfl) rfl rfl (by kernel_rfl) (by kernel_rfl) (by kernel_rfl) (by kernel_rfl) (by kernel_rfl) ?_
  refine s_nil ?_
  refine fin_seq ?_
  refine ok_ret ?_
  refine fin_cell 3 ⟨b1, #[.int .i64 (numT k0), .int .i64 (numT k1), .int .i64 (numT k2), .string (mkS (preT14 k3)), .string (mkS (bldT k4))], 24⟩ (off := 0) (.agg #[.int .i64 (numT k0), .int .i64 (numT k1), .int .i64 (numT k2), .string (mkS (preT14 k3)), .string (mkS (bldT k4))]) Tryd.results5 (by kernel_rfl) (by kernel_rfl) (by kernel_rfl) ?_
  exact fun w hO => ⟨rfl, hO.below⟩
end Go.Proofs.YtndjdmbbndcohaaDoor
